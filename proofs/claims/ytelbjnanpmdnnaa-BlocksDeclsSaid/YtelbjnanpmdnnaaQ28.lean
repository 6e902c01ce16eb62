/- Texts of mine in one: Bb3. -/
import Derived.Deep.DeepCutAuto
import Derived.Test.YtelbjnanpmdnnaaQ27
namespace Go.Proofs.Ytelbjnanpmdnnaa
section
open Go.RowKit
set_option linter.unusedVariables false
set_option linter.unusedSimpArgs false
theorem rl_cells (x : Rl) : ∀ u ∈ rlCells x, u.oneCell' = true := by
  intro u hu
  unfold rlCells at hu
  simp only [List.mem_cons, List.not_mem_nil, or_false] at hu
  rcases hu with rfl | rfl | rfl | rfl | rfl | rfl | rfl <;> rfl
theorem Blk.set7 {w : World} {p : Nat} {T : TypeId} {a0 a1 a2 a3 a4 a5 a6 : Value} (h : Blk w p [a0, a1, a2, a3, a4, a5, a6] T) (v0 v1 v2 v3 v4 v5 v6 : Value) :
    Blk (((((((w.setCell ⟨p, 0, none⟩ v0).setCell ⟨p, 1, none⟩ v1).setCell ⟨p, 2, none⟩ v2).setCell ⟨p, 3, none⟩ v3).setCell ⟨p, 4, none⟩ v4).setCell ⟨p, 5, none⟩ v5).setCell ⟨p, 6, none⟩ v6) p [v0, v1, v2, v3, v4, v5, v6] T :=
  ((((((h.setCell 0 v0).setCell 1 v1).setCell 2 v2).setCell 3 v3).setCell 4 v4).setCell 5 v5).setCell 6 v6
theorem set7n {w0 w : World} {B p : Nat} (h : Below B w0 w) (hp : B ≤ p) (v0 v1 v2 v3 v4 v5 v6 : Value) : Below B w0 (((((((w.setCell ⟨p, 0, none⟩ v0).setCell ⟨p, 1, none⟩ v1).setCell ⟨p, 2, none⟩ v2).setCell ⟨p, 3, none⟩ v3).setCell ⟨p, 4, none⟩ v4).setCell ⟨p, 5, none⟩ v5).setCell ⟨p, 6, none⟩ v6) :=
  ((((((h.setCell (p := ⟨p, 0, none⟩) hp _).setCell (p := ⟨p, 1, none⟩) hp _).setCell (p := ⟨p, 2, none⟩) hp _).setCell (p := ⟨p, 3, none⟩) hp _).setCell (p := ⟨p, 4, none⟩) hp _).setCell (p := ⟨p, 5, none⟩) hp _).setCell (p := ⟨p, 6, none⟩) hp _
theorem set7g (w : World) (p : Nat) (v0 v1 v2 v3 v4 v5 v6 : Value) : w.grownBy (((((((w.setCell ⟨p, 0, none⟩ v0).setCell ⟨p, 1, none⟩ v1).setCell ⟨p, 2, none⟩ v2).setCell ⟨p, 3, none⟩ v3).setCell ⟨p, 4, none⟩ v4).setCell ⟨p, 5, none⟩ v5).setCell ⟨p, 6, none⟩ v6) (some p) :=
  grown_trans (grown_trans (grown_trans (grown_trans (grown_trans (grown_trans (grown_setCell w p 0 v0) (grown_setCell _ p 1 v1)) (grown_setCell _ p 2 v2)) (grown_setCell _ p 3 v3)) (grown_setCell _ p 4 v4)) (grown_setCell _ p 5 v5)) (grown_setCell _ p 6 v6)
def RlsPost (xs : List Rl) (w : World) (e : Ending) (w' : World) : Prop := ∃ v, e = .returned v ∧ w'.ownsRow w.heap.size 32 7 v xs.length (xs.flatMap rlCells) ∧ Below w.heap.size w w'
set_option maxRecDepth 100000 in
set_option maxHeartbeats 16000000 in
theorem rkrules_any {ts : List Tk} {b n cap : Nat} {w : World} (f t : Int) (top : Bool) (a e0 E : Nat) (hT : TkRow w b n ts) (hcap : n ≤ cap) (hc2 : cap ≤ maxLen) (hn : n ≤ 1000000) (hs : ∀ j, (txA ts j).size ≤ 1000000) (ha : (a : Int) = max f 0) (ha2 : (a : Int) ≤ 9223372036854775807) (he : (e0 : Int) = max (min t n) 0) (hE : endF ts e0 a = E) :
    Calls Try.prog 11 #[.slice (some ⟨b, 0, none⟩) n cap, .int .i64 f, .int .i64 t, .bool top] w (RlsPost (rulesF ts E top a) w) := by
  have cC := fun (w' : World) (h : TkRow w' b n ts) => rkcut_any (w := w') f t a e0 h hcap hc2 hn ha ha2 he
  rw [hE] at cC
  have hge : a ≤ E := by rw [← hE]; exact endF_ge ts e0 a
  have hle : E ≤ max a n := by have := endF_le ts e0 a; omega
  have hEn : a < E → E ≤ n := by omega
  clear hE he ha
  have cA := fun (w' : World) (j : Nat) (h : TkRow w' b n ts) (hj : j < E) (hEn : E ≤ n) => rkatrule_any (w := w') j h hcap hc2 hn hEn hj (hs j)
  have cU := fun (w' : World) (j : Nat) (h : TkRow w' b n ts) (hj : j < E) (hEn : E ≤ n) => rkuntil_any (w := w') 23 23 j h hcap hc2 hn hEn (by omega)
  have cB := fun (w' : World) (k : Nat) (h : TkRow w' b n ts) (hk : k < E) (hEn : E ≤ n) => rkbehind_any hcap hc2 hn hEn _ k w' (Nat.le_refl _) hk h
  unfold maxLen at hc2
  obtain ⟨i0, hi, hz0, hz1, hz2⟩ := info_parts Try.infoRule
  have own0 := World.ownsRow_made (base := w.heap.size) (e := 32) (size := 7) w #[] 0 (Nat.le_refl _) (by simp [maxLen]) (by simp)
  have hb0 := (Below.refl w.heap.size w).alloc (Nat.le_refl _) (.cells #[] 32)
  have HT := Lib.hid hT
  have hbw := hT.lt
  generalize hR : rulesF ts E top a = R at *
  have HR := Lib.hid hR
  clear hR hT hs
  go_enter Try.func11, Try.ntmps11
  go_wp2_with fail
  refine (cC _ (HT.out.later ((Below.refl w.heap.size w).alloc (Nat.le_refl _) _) hbw)).mono ?_
  rintro e wq ⟨rfl, hwq⟩; replace hwq := hwq.symm; subst hwq
  clear cC
  go_wp2_with fail
  go_loopw [9, 10] (fun v at_ wr => ∃ (j : Nat) (acc : List Rl), at_ = .int .i64 j ∧ wr.ownsRow w.heap.size 32 7 v acc.length (acc.flatMap rlCells) ∧ Hid (acc ++ rulesF ts E top j = R) ∧ a ≤ j ∧ j ≤ E ∧ acc.length ≤ j ∧ Below w.heap.size w wr)
    (fun _ at_ _ => E - (intOf at_).toNat)
  case atStart => exact ⟨a, [], by go_num, own0, HR, by omega, by omega, by simp, hb0⟩
  case round =>
    obtain ⟨j, acc, rfl, hown, hG, haj, hjE, hal, hbl⟩ := hrel
    by_cases hj : j < E
    · have hj1 : (j : Int) < (E : Int) := by omega
      have hE2 : E ≤ n := by omega
      have hj2 : (j : Int) < (n : Int) := by omega
      have HW := Lib.hid (HT.out.later hbl hbw)
      have c0 := HW.out.kd j (by omega)
      have HG : Hid (acc ++ (if gapB top (kdA ts j) = true then rulesF ts E top (j + 1)
      else if kdA ts j = 3 then (atruleF ts E j).1 :: rulesF ts E top (atruleF ts E j).2
      else if scanF ts (isK 23) E j < E then (qualF ts E j).1 :: rulesF ts E top (qualF ts E j).2
      else []) = R) := Lib.hid (by rw [← hG.out]; conv => rhs; rw [rulesF_step, if_pos hj])
      clear hG
      cases hgap : gapB top (kdA ts j) with
      | true =>
        have HG2 : Hid (acc ++ rulesF ts E top (j + 1) = R) := Lib.hid (by rw [← HG.out, if_pos hgap])
        clear HG cA cU cB
        unfold gapB at hgap
        by_cases h13 : kdA ts j = 13
        · rw [h13] at c0
          clear h13 hgap
          go_wp2
          go_roundw
          case rel => exact ⟨j + 1, acc, by go_num, hown, HG2, by omega, by omega, by omega, hbl⟩
          case measure => simp [intOf]; omega
        · have n13 : (kdA ts j == 13) = false := beq_eq_false_iff_ne.2 h13
          rw [decide_eq_false h13, Bool.false_or, Bool.and_eq_true, Bool.or_eq_true, decide_eq_true_iff, decide_eq_true_iff] at hgap
          obtain ⟨rfl, h14 | h15⟩ := hgap
          · rw [h14] at c0 n13
            clear h13 h14
            go_wp2
            go_roundw
            case rel => exact ⟨j + 1, acc, by go_num, hown, HG2, by omega, by omega, by omega, hbl⟩
            case measure => simp [intOf]; omega
          · rw [h15] at c0 n13
            clear h13 h15
            go_wp2
            go_roundw
            case rel => exact ⟨j + 1, acc, by go_num, hown, HG2, by omega, by omega, by omega, hbl⟩
            case measure => simp [intOf]; omega
      | false =>
        have hng : gapB top (kdA ts j) ≠ true := by rw [hgap]; simp
        by_cases h3 : kdA ts j = 3
        · have HG2 : Hid (acc ++ ((atruleF ts E j).1 :: rulesF ts E top (atruleF ts E j).2) = R) := Lib.hid (by rw [← HG.out, if_neg hng, if_pos h3])
          have hab := atruleF_bounds ts E j hj
          rw [h3] at c0
          clear h3 hng hgap HG
          have cA1 := fun w' h => cA w' j h hj hE2
          clear cA cB cU
          generalize atruleF ts E j = X at *
          obtain ⟨x, nx⟩ := X
          dsimp only at hab
          cases top
          all_goals
            go_wp2_with fail
            have B1 : Blk (wr.alloc (.cells [.bool false, .string ⟨#[]⟩, .int .i64 0, .int .i64 0, .bool false, .int .i64 0, .int .i64 0].toArray 32)) wr.heap.size [.bool false, .string ⟨#[]⟩, .int .i64 0, .int .i64 0, .bool false, .int .i64 0, .int .i64 0] 32 := Blk.alloc _ _
            have hbl1 := hbl.alloc hbl.size (.cells [.bool false, .string ⟨#[]⟩, .int .i64 0, .int .i64 0, .bool false, .int .i64 0, .int .i64 0].toArray 32)
            have hown1 := hown.alloc (.cells [.bool false, .string ⟨#[]⟩, .int .i64 0, .int .i64 0, .bool false, .int .i64 0, .int .i64 0].toArray 32)
            have hT1 := HW.out.later ((Below.refl wr.heap.size wr).alloc (Nat.le_refl _) (.cells [.bool false, .string ⟨#[]⟩, .int .i64 0, .int .i64 0, .bool false, .int .i64 0, .int .i64 0].toArray 32)) HW.out.lt
            have hz1' : (wr.alloc (.cells [.bool false, .string ⟨#[]⟩, .int .i64 0, .int .i64 0, .bool false, .int .i64 0, .int .i64 0].toArray 32)).heap.size = wr.heap.size + 1 := by simp
            have hp1 := HW.out.lt
            have hp2 := hbl.size
            have hlt1 := fun k hk => hown.lt k hk
            generalize hW1 : wr.alloc (.cells [.bool false, .string ⟨#[]⟩, .int .i64 0, .int .i64 0, .bool false, .int .i64 0, .int .i64 0].toArray 32) = w1 at *
            clear hown hbl HW c0 hW1
            generalize wr.heap.size = p at *
            refine (cA1 w1 hT1).mono ?_
            rintro e w2 ⟨rfl, hb2⟩
            have B2 := B1.later hb2 (by omega)
            have hbl2 := hbl1.trans (hb2.mono hbl1.size)
            have hown2 := owns_later hown1 hb2
            clear hown1 hbl1 B1 hT1 hb2 cA1
            obtain ⟨x0, x1, x2, x3, x4, x5, x6⟩ := x
            unfold rlCells
            dsimp only
            have c0 := B2.cell 0 _ rfl
            have c1 := B2.cell 1 _ rfl
            have c2 := B2.cell 2 _ rfl
            have c3 := B2.cell 3 _ rfl
            have c4 := B2.cell 4 _ rfl
            have c5 := B2.cell 5 _ rfl
            have c6 := B2.cell 6 _ rfl
            have f0 := B2.frozen 0
            have f1 := B2.frozen 1
            have f2 := B2.frozen 2
            have f3 := B2.frozen 3
            have f4 := B2.frozen 4
            have f5 := B2.frozen 5
            have f6 := B2.frozen 6
            go_upto_region 15 with (fail)
            have B3 := B2.set7 (.bool x0) (.string x1) (.int .i64 x2) (.int .i64 x3) (.bool x4) (.int .i64 x5) (.int .i64 x6)
            have hbl3 := set7n hbl2 hp2 (.bool x0) (.string x1) (.int .i64 x2) (.int .i64 x3) (.bool x4) (.int .i64 x5) (.int .i64 x6)
            have hown3 := hown2.kept (set7g w2 p (.bool x0) (.string x1) (.int .i64 x2) (.int .i64 x3) (.bool x4) (.int .i64 x5) (.int .i64 x6)) (.inr (fun e => by have := (hlt1 p e).2; omega))
            generalize (((((((w2.setCell ⟨p, 0, none⟩ (Value.bool x0)).setCell ⟨p, 1, none⟩ (Value.string x1)).setCell ⟨p, 2, none⟩ (Value.int .i64 x2)).setCell ⟨p, 3, none⟩ (Value.int .i64 x3)).setCell ⟨p, 4, none⟩ (Value.bool x4)).setCell ⟨p, 5, none⟩ (Value.int .i64 x5)).setCell ⟨p, 6, none⟩ (Value.int .i64 x6)) = w3 at *
            clear c0 c1 c2 c3 c4 c5 c6 f0 f1 f2 f3 f4 f5 f6 B2 hbl2 hown2
            have hA : ∀ o : Obj, (w3.alloc o).heap.size = w3.heap.size + 1 := fun o => by simp
            have hB := Blk.alloc (w := w3) (rlCells (Rl.mk x0 x1 x2 x3 x4 x5 x6)) 32
            have hnews : ∀ q u, (rlCells (Rl.mk x0 x1 x2 x3 x4 x5 x6))[q]? = some u → (w3.alloc (.cells (rlCells (Rl.mk x0 x1 x2 x3 x4 x5 x6)).toArray 32)).cell? ((⟨w3.heap.size, 0, none⟩ : Addr).add q) = some u := fun q u hu => by
              have h0 := hB.cell q u hu
              rw [← h0]; congr 1; unfold Addr.add; simp <;> (intro h; exact h.symm)
            have hown4 := hown3.alloc (.cells (rlCells (Rl.mk x0 x1 x2 x3 x4 x5 x6)).toArray 32)
            have hbl4 := hbl3.alloc hbl3.size (.cells (rlCells (Rl.mk x0 x1 x2 x3 x4 x5 x6)).toArray 32)
            have hone := rl_cells (Rl.mk x0 x1 x2 x3 x4 x5 x6)
            have hlA : (acc ++ [(Rl.mk x0 x1 x2 x3 x4 x5 x6)]).flatMap rlCells = acc.flatMap rlCells ++ rlCells (Rl.mk x0 x1 x2 x3 x4 x5 x6) := by simp
            have HLA := Lib.hid hlA
            have hsz3 := hbl3.size
            have hlt3 := fun k hk => hown3.lt k hk
            clear hlA hB hown3 hbl3
            have c0 := B3.cell 0 _ rfl
            have c1 := B3.cell 1 _ rfl
            have c2 := B3.cell 2 _ rfl
            have c3 := B3.cell 3 _ rfl
            have c4 := B3.cell 4 _ rfl
            have c5 := B3.cell 5 _ rfl
            have c6 := B3.cell 6 _ rfl
            unfold rlCells at hown4 hbl4 hnews hone
            dsimp only at hown4 hbl4 hnews hone
            go_wp2_with (at_builtin; refine wpList_append_own _ rfl _ _ 26 rfl w.heap.size 32 i0 _ 7 64 Try.underlying26 hi hz0 hz1 hz2 rfl (by decide) _ acc.length _ rfl hown4 ⟨w3.heap.size, 0, none⟩ 1 1 [.bool x0, .string x1, .int .i64 x2, .int .i64 x3, .bool x4, .int .i64 x5, .int .i64 x6] rfl rfl hnews hone (by unfold maxLen; omega) (by omega) (by simp <;> omega) ?_; intro v' w5 hown5 hgrow5 _)
            have hbl5 : Below w.heap.size w w5 := hbl4.grown hgrow5 hbl4.size (fun k hk => (hlt3 k hk).1)
            go_roundw
            case rel => exact ⟨nx, acc ++ [(Rl.mk x0 x1 x2 x3 x4 x5 x6)], by go_num, by rw [HLA.out, List.length_append]; exact hown5, Lib.hid (by rw [← HG2.out]; simp), by omega, by omega, by rw [List.length_append]; simp; omega, hbl5⟩
            case measure => simp [intOf]; omega
        · have HG2 : Hid (acc ++ (if scanF ts (isK 23) E j < E then (qualF ts E j).1 :: rulesF ts E top (qualF ts E j).2 else []) = R) := Lib.hid (by rw [← HG.out, if_neg hng, if_neg h3])
          have n3 : (kdA ts j == 3) = false := beq_eq_false_iff_ne.2 h3
          unfold gapB at hgap
          rw [Bool.or_eq_false_iff, Bool.and_eq_false_iff, Bool.or_eq_false_iff, decide_eq_false_iff_not, decide_eq_false_iff_not, decide_eq_false_iff_not] at hgap
          obtain ⟨h13, h45⟩ := hgap
          have n13 : (kdA ts j == 13) = false := beq_eq_false_iff_ne.2 h13
          have hK := scanF_bounds ts (isK 23) E j hjE
          have hKs := scanF_stop ts (isK 23) E _ j (Nat.le_refl _)
          have hU2 : scanF ts (isK2 23 23) E j = scanF ts (isK 23) E j := scanF_congr ts _ _ E (fun k => by unfold isK2 isK; simp) j
          have cU1 := fun w' h => cU w' j h hj hE2
          rw [hU2] at cU1
          have HQ : Hid (qualF ts E j = (⟨false, ⟨#[]⟩, j, scanF ts (isK 23) E j, true, scanF ts (isK 23) E j + 1, (blkF ts E (scanF ts (isK 23) E j)).1⟩, (blkF ts E (scanF ts (isK 23) E j)).2)) := Lib.hid rfl
          have hqb := qualF_bounds ts E j
          clear h3 hng HG cA cU hU2 h13
          generalize hK' : scanF ts (isK 23) E j = K at *
          clear hK'
          have HKS := Lib.hid hKs
          clear hKs
          have hp2 := hbl.size
          by_cases hKE : K < E
          · have hkK := isK_iff.1 (HKS.out hKE)
            have hqb := hqb hKE hjE
            have HG3 : Hid (acc ++ (qualF ts E j).1 :: rulesF ts E top (qualF ts E j).2 = R) := Lib.hid (by rw [← HG2.out, if_pos hKE])
            have hKne : ((K : Int) == (E : Int)) = false := beq_eq_false_iff_ne.2 (by omega)
            have cB1 := fun w' h => cB w' K h hKE hE2
            have c23 : closeOf 23 = 24 := rfl
            have hB1 : cvF ts E K = (blkF ts E K).2 := by rw [cvF_step ts E K hKE, hkK, c23, if_neg (by decide)]; rfl
            have hB2 : closeF ts E K = (blkF ts E K).1 := by unfold closeF; rw [hkK, c23, if_neg (by decide)]; rfl
            rw [hB1, hB2] at cB1
            rw [HQ.out] at hqb HG3
            clear hB1 hB2 hkK c23 HG2 HQ HKS cB
            generalize blkF ts E K = X at *
            obtain ⟨x1, x2⟩ := X
            dsimp only at hqb HG3
            generalize hq : kdA ts j = q at *
            clear hq
            cases top
            · clear h45
              go_wp2_with fail
              have B1 : Blk (wr.alloc (.cells [.bool false, .string ⟨#[]⟩, .int .i64 0, .int .i64 0, .bool false, .int .i64 0, .int .i64 0].toArray 32)) wr.heap.size [.bool false, .string ⟨#[]⟩, .int .i64 0, .int .i64 0, .bool false, .int .i64 0, .int .i64 0] 32 := Blk.alloc _ _
              have hbl1 := hbl.alloc hbl.size (.cells [.bool false, .string ⟨#[]⟩, .int .i64 0, .int .i64 0, .bool false, .int .i64 0, .int .i64 0].toArray 32)
              have hown1 := hown.alloc (.cells [.bool false, .string ⟨#[]⟩, .int .i64 0, .int .i64 0, .bool false, .int .i64 0, .int .i64 0].toArray 32)
              have hT1 := HW.out.later ((Below.refl wr.heap.size wr).alloc (Nat.le_refl _) (.cells [.bool false, .string ⟨#[]⟩, .int .i64 0, .int .i64 0, .bool false, .int .i64 0, .int .i64 0].toArray 32)) HW.out.lt
              have hp1 := HW.out.lt
              have hlt1 := fun k hk => hown.lt k hk
              generalize hW1 : wr.alloc (.cells [.bool false, .string ⟨#[]⟩, .int .i64 0, .int .i64 0, .bool false, .int .i64 0, .int .i64 0].toArray 32) = w1 at *
              clear hown hbl HW c0 hW1
              generalize wr.heap.size = p at *
              refine (cU1 w1 hT1).mono ?_
              rintro e wq ⟨rfl, hwq⟩; replace hwq := hwq.symm; subst hwq
              clear cU1
              have c0 := B1.cell 0 _ rfl
              have c1 := B1.cell 1 _ rfl
              have c2 := B1.cell 2 _ rfl
              have c3 := B1.cell 3 _ rfl
              have c4 := B1.cell 4 _ rfl
              have c5 := B1.cell 5 _ rfl
              have c6 := B1.cell 6 _ rfl
              have f0 := B1.frozen 0
              have f1 := B1.frozen 1
              have f2 := B1.frozen 2
              have f3 := B1.frozen 3
              have f4 := B1.frozen 4
              have f5 := B1.frozen 5
              have f6 := B1.frozen 6
              go_upto_region 11 with (fail)
              have B2 := B1.set7 (.bool false) (.string ⟨#[]⟩) (.int .i64 j) (.int .i64 K) (.bool true) (.int .i64 0) (.int .i64 0)
              have hbl2 := set7n hbl1 hp2 (.bool false) (.string ⟨#[]⟩) (.int .i64 j) (.int .i64 K) (.bool true) (.int .i64 0) (.int .i64 0)
              have hown2 := hown1.kept (set7g w1 p (.bool false) (.string ⟨#[]⟩) (.int .i64 j) (.int .i64 K) (.bool true) (.int .i64 0) (.int .i64 0)) (.inr (fun e => by have := (hlt1 p e).2; omega))
              have hT2 := hT1.later (set7n (Below.refl p w1) (Nat.le_refl _) (.bool false) (.string ⟨#[]⟩) (.int .i64 j) (.int .i64 K) (.bool true) (.int .i64 0) (.int .i64 0)) hp1
              generalize (((((((w1.setCell ⟨p, 0, none⟩ (Value.bool false)).setCell ⟨p, 1, none⟩ (Value.string ⟨#[]⟩)).setCell ⟨p, 2, none⟩ (Value.int .i64 j)).setCell ⟨p, 3, none⟩ (Value.int .i64 K)).setCell ⟨p, 4, none⟩ (Value.bool true)).setCell ⟨p, 5, none⟩ (Value.int .i64 0)).setCell ⟨p, 6, none⟩ (Value.int .i64 0)) = w2 at *
              clear c0 c1 c2 c3 c4 c5 c6 f0 f1 f2 f3 f4 f5 f6 B1 hbl1 hown1 hT1
              have c0 := B2.cell 0 _ rfl
              have c1 := B2.cell 1 _ rfl
              have c2 := B2.cell 2 _ rfl
              have c3 := B2.cell 3 _ rfl
              have c4 := B2.cell 4 _ rfl
              have c5 := B2.cell 5 _ rfl
              have c6 := B2.cell 6 _ rfl
              have f0 := B2.frozen 0
              have f1 := B2.frozen 1
              have f2 := B2.frozen 2
              have f3 := B2.frozen 3
              have f4 := B2.frozen 4
              have f5 := B2.frozen 5
              have f6 := B2.frozen 6
              go_wp2_with fail
              refine (cB1 _ (hT2.set hp1)).mono ?_
              rintro e wq ⟨rfl, hwq⟩; replace hwq := hwq.symm; subst hwq
              go_upto_region 15 with (fail)
              have B3 : Blk ((w2.setCell ⟨p, 5, none⟩ (.int .i64 ((K : Int) + 1))).setCell ⟨p, 6, none⟩ (.int .i64 x1)) p [.bool false, .string ⟨#[]⟩, .int .i64 j, .int .i64 K, .bool true, .int .i64 (K + 1 : Nat), .int .i64 x1] 32 := (B2.setCell 5 (.int .i64 ((K : Int) + 1))).setCell 6 (.int .i64 x1)
              have hbl3 := (hbl2.setCell (p := ⟨p, 5, none⟩) hp2 (.int .i64 ((K : Int) + 1))).setCell (p := ⟨p, 6, none⟩) hp2 (.int .i64 x1)
              have hown3 := hown2.kept (grown_trans (grown_setCell w2 p 5 (.int .i64 ((K : Int) + 1))) (grown_setCell _ p 6 (.int .i64 x1))) (.inr (fun e => by have := (hlt1 p e).2; omega))
              generalize ((w2.setCell ⟨p, 5, none⟩ (.int .i64 ((K : Int) + 1))).setCell ⟨p, 6, none⟩ (.int .i64 x1)) = w3 at *
              clear c0 c1 c2 c3 c4 c5 c6 f0 f1 f2 f3 f4 f5 f6 B2 hbl2 hown2 hT2 cB1
              have hA : ∀ o : Obj, (w3.alloc o).heap.size = w3.heap.size + 1 := fun o => by simp
              have hB := Blk.alloc (w := w3) (rlCells (Rl.mk false ⟨#[]⟩ j K true (K + 1) x1)) 32
              have hnews : ∀ q u, (rlCells (Rl.mk false ⟨#[]⟩ j K true (K + 1) x1))[q]? = some u → (w3.alloc (.cells (rlCells (Rl.mk false ⟨#[]⟩ j K true (K + 1) x1)).toArray 32)).cell? ((⟨w3.heap.size, 0, none⟩ : Addr).add q) = some u := fun q u hu => by
                have h0 := hB.cell q u hu
                rw [← h0]; congr 1; unfold Addr.add; simp <;> (intro h; exact h.symm)
              have hown4 := hown3.alloc (.cells (rlCells (Rl.mk false ⟨#[]⟩ j K true (K + 1) x1)).toArray 32)
              have hbl4 := hbl3.alloc hbl3.size (.cells (rlCells (Rl.mk false ⟨#[]⟩ j K true (K + 1) x1)).toArray 32)
              have hone := rl_cells (Rl.mk false ⟨#[]⟩ j K true (K + 1) x1)
              have hlA : (acc ++ [(Rl.mk false ⟨#[]⟩ j K true (K + 1) x1)]).flatMap rlCells = acc.flatMap rlCells ++ rlCells (Rl.mk false ⟨#[]⟩ j K true (K + 1) x1) := by simp
              have HLA := Lib.hid hlA
              have hsz3 := hbl3.size
              have hlt3 := fun k hk => hown3.lt k hk
              clear hlA hB hown3 hbl3
              have c0 := B3.cell 0 _ rfl
              have c1 := B3.cell 1 _ rfl
              have c2 := B3.cell 2 _ rfl
              have c3 := B3.cell 3 _ rfl
              have c4 := B3.cell 4 _ rfl
              have c5 := B3.cell 5 _ rfl
              have c6 := B3.cell 6 _ rfl
              unfold rlCells at hown4 hbl4 hnews hone
              dsimp only at hown4 hbl4 hnews hone
              rw [show ((K + 1 : Nat) : Int) = (K : Int) + 1 from by omega] at *
              go_wp2_with (at_builtin; refine wpList_append_own _ rfl _ _ 26 rfl w.heap.size 32 i0 _ 7 64 Try.underlying26 hi hz0 hz1 hz2 rfl (by decide) _ acc.length _ rfl hown4 ⟨w3.heap.size, 0, none⟩ 1 1 [.bool false, .string ⟨#[]⟩, .int .i64 j, .int .i64 K, .bool true, .int .i64 ((K : Int) + 1), .int .i64 x1] rfl rfl hnews hone (by unfold maxLen; omega) (by omega) (by simp <;> omega) ?_; intro v' w5 hown5 hgrow5 _)
              have hbl5 : Below w.heap.size w w5 := hbl4.grown hgrow5 hbl4.size (fun k hk => (hlt3 k hk).1)
              go_roundw
              case rel => exact ⟨x2, acc ++ [(Rl.mk false ⟨#[]⟩ j K true (K + 1) x1)], by go_num, by rw [HLA.out, List.length_append]; exact hown5, Lib.hid (by rw [← HG3.out]; simp), by omega, by omega, by rw [List.length_append]; simp; omega, hbl5⟩
              case measure => simp [intOf]; omega
            · have h45 := h45.resolve_left (by simp)
              have n14 : (q == 14) = false := beq_eq_false_iff_ne.2 h45.1
              have n15 : (q == 15) = false := beq_eq_false_iff_ne.2 h45.2
              clear h45
              go_wp2_with fail
              have B1 : Blk (wr.alloc (.cells [.bool false, .string ⟨#[]⟩, .int .i64 0, .int .i64 0, .bool false, .int .i64 0, .int .i64 0].toArray 32)) wr.heap.size [.bool false, .string ⟨#[]⟩, .int .i64 0, .int .i64 0, .bool false, .int .i64 0, .int .i64 0] 32 := Blk.alloc _ _
              have hbl1 := hbl.alloc hbl.size (.cells [.bool false, .string ⟨#[]⟩, .int .i64 0, .int .i64 0, .bool false, .int .i64 0, .int .i64 0].toArray 32)
              have hown1 := hown.alloc (.cells [.bool false, .string ⟨#[]⟩, .int .i64 0, .int .i64 0, .bool false, .int .i64 0, .int .i64 0].toArray 32)
              have hT1 := HW.out.later ((Below.refl wr.heap.size wr).alloc (Nat.le_refl _) (.cells [.bool false, .string ⟨#[]⟩, .int .i64 0, .int .i64 0, .bool false, .int .i64 0, .int .i64 0].toArray 32)) HW.out.lt
              have hp1 := HW.out.lt
              have hlt1 := fun k hk => hown.lt k hk
              generalize hW1 : wr.alloc (.cells [.bool false, .string ⟨#[]⟩, .int .i64 0, .int .i64 0, .bool false, .int .i64 0, .int .i64 0].toArray 32) = w1 at *
              clear hown hbl HW c0 hW1
              generalize wr.heap.size = p at *
              refine (cU1 w1 hT1).mono ?_
              rintro e wq ⟨rfl, hwq⟩; replace hwq := hwq.symm; subst hwq
              clear cU1
              have c0 := B1.cell 0 _ rfl
              have c1 := B1.cell 1 _ rfl
              have c2 := B1.cell 2 _ rfl
              have c3 := B1.cell 3 _ rfl
              have c4 := B1.cell 4 _ rfl
              have c5 := B1.cell 5 _ rfl
              have c6 := B1.cell 6 _ rfl
              have f0 := B1.frozen 0
              have f1 := B1.frozen 1
              have f2 := B1.frozen 2
              have f3 := B1.frozen 3
              have f4 := B1.frozen 4
              have f5 := B1.frozen 5
              have f6 := B1.frozen 6
              go_upto_region 11 with (fail)
              have B2 := B1.set7 (.bool false) (.string ⟨#[]⟩) (.int .i64 j) (.int .i64 K) (.bool true) (.int .i64 0) (.int .i64 0)
              have hbl2 := set7n hbl1 hp2 (.bool false) (.string ⟨#[]⟩) (.int .i64 j) (.int .i64 K) (.bool true) (.int .i64 0) (.int .i64 0)
              have hown2 := hown1.kept (set7g w1 p (.bool false) (.string ⟨#[]⟩) (.int .i64 j) (.int .i64 K) (.bool true) (.int .i64 0) (.int .i64 0)) (.inr (fun e => by have := (hlt1 p e).2; omega))
              have hT2 := hT1.later (set7n (Below.refl p w1) (Nat.le_refl _) (.bool false) (.string ⟨#[]⟩) (.int .i64 j) (.int .i64 K) (.bool true) (.int .i64 0) (.int .i64 0)) hp1
              generalize (((((((w1.setCell ⟨p, 0, none⟩ (Value.bool false)).setCell ⟨p, 1, none⟩ (Value.string ⟨#[]⟩)).setCell ⟨p, 2, none⟩ (Value.int .i64 j)).setCell ⟨p, 3, none⟩ (Value.int .i64 K)).setCell ⟨p, 4, none⟩ (Value.bool true)).setCell ⟨p, 5, none⟩ (Value.int .i64 0)).setCell ⟨p, 6, none⟩ (Value.int .i64 0)) = w2 at *
              clear c0 c1 c2 c3 c4 c5 c6 f0 f1 f2 f3 f4 f5 f6 B1 hbl1 hown1 hT1
              have c0 := B2.cell 0 _ rfl
              have c1 := B2.cell 1 _ rfl
              have c2 := B2.cell 2 _ rfl
              have c3 := B2.cell 3 _ rfl
              have c4 := B2.cell 4 _ rfl
              have c5 := B2.cell 5 _ rfl
              have c6 := B2.cell 6 _ rfl
              have f0 := B2.frozen 0
              have f1 := B2.frozen 1
              have f2 := B2.frozen 2
              have f3 := B2.frozen 3
              have f4 := B2.frozen 4
              have f5 := B2.frozen 5
              have f6 := B2.frozen 6
              go_wp2_with fail
              refine (cB1 _ (hT2.set hp1)).mono ?_
              rintro e wq ⟨rfl, hwq⟩; replace hwq := hwq.symm; subst hwq
              go_upto_region 15 with (fail)
              have B3 : Blk ((w2.setCell ⟨p, 5, none⟩ (.int .i64 ((K : Int) + 1))).setCell ⟨p, 6, none⟩ (.int .i64 x1)) p [.bool false, .string ⟨#[]⟩, .int .i64 j, .int .i64 K, .bool true, .int .i64 (K + 1 : Nat), .int .i64 x1] 32 := (B2.setCell 5 (.int .i64 ((K : Int) + 1))).setCell 6 (.int .i64 x1)
              have hbl3 := (hbl2.setCell (p := ⟨p, 5, none⟩) hp2 (.int .i64 ((K : Int) + 1))).setCell (p := ⟨p, 6, none⟩) hp2 (.int .i64 x1)
              have hown3 := hown2.kept (grown_trans (grown_setCell w2 p 5 (.int .i64 ((K : Int) + 1))) (grown_setCell _ p 6 (.int .i64 x1))) (.inr (fun e => by have := (hlt1 p e).2; omega))
              generalize ((w2.setCell ⟨p, 5, none⟩ (.int .i64 ((K : Int) + 1))).setCell ⟨p, 6, none⟩ (.int .i64 x1)) = w3 at *
              clear c0 c1 c2 c3 c4 c5 c6 f0 f1 f2 f3 f4 f5 f6 B2 hbl2 hown2 hT2 cB1
              have hA : ∀ o : Obj, (w3.alloc o).heap.size = w3.heap.size + 1 := fun o => by simp
              have hB := Blk.alloc (w := w3) (rlCells (Rl.mk false ⟨#[]⟩ j K true (K + 1) x1)) 32
              have hnews : ∀ q u, (rlCells (Rl.mk false ⟨#[]⟩ j K true (K + 1) x1))[q]? = some u → (w3.alloc (.cells (rlCells (Rl.mk false ⟨#[]⟩ j K true (K + 1) x1)).toArray 32)).cell? ((⟨w3.heap.size, 0, none⟩ : Addr).add q) = some u := fun q u hu => by
                have h0 := hB.cell q u hu
                rw [← h0]; congr 1; unfold Addr.add; simp <;> (intro h; exact h.symm)
              have hown4 := hown3.alloc (.cells (rlCells (Rl.mk false ⟨#[]⟩ j K true (K + 1) x1)).toArray 32)
              have hbl4 := hbl3.alloc hbl3.size (.cells (rlCells (Rl.mk false ⟨#[]⟩ j K true (K + 1) x1)).toArray 32)
              have hone := rl_cells (Rl.mk false ⟨#[]⟩ j K true (K + 1) x1)
              have hlA : (acc ++ [(Rl.mk false ⟨#[]⟩ j K true (K + 1) x1)]).flatMap rlCells = acc.flatMap rlCells ++ rlCells (Rl.mk false ⟨#[]⟩ j K true (K + 1) x1) := by simp
              have HLA := Lib.hid hlA
              have hsz3 := hbl3.size
              have hlt3 := fun k hk => hown3.lt k hk
              clear hlA hB hown3 hbl3
              have c0 := B3.cell 0 _ rfl
              have c1 := B3.cell 1 _ rfl
              have c2 := B3.cell 2 _ rfl
              have c3 := B3.cell 3 _ rfl
              have c4 := B3.cell 4 _ rfl
              have c5 := B3.cell 5 _ rfl
              have c6 := B3.cell 6 _ rfl
              unfold rlCells at hown4 hbl4 hnews hone
              dsimp only at hown4 hbl4 hnews hone
              rw [show ((K + 1 : Nat) : Int) = (K : Int) + 1 from by omega] at *
              go_wp2_with (at_builtin; refine wpList_append_own _ rfl _ _ 26 rfl w.heap.size 32 i0 _ 7 64 Try.underlying26 hi hz0 hz1 hz2 rfl (by decide) _ acc.length _ rfl hown4 ⟨w3.heap.size, 0, none⟩ 1 1 [.bool false, .string ⟨#[]⟩, .int .i64 j, .int .i64 K, .bool true, .int .i64 ((K : Int) + 1), .int .i64 x1] rfl rfl hnews hone (by unfold maxLen; omega) (by omega) (by simp <;> omega) ?_; intro v' w5 hown5 hgrow5 _)
              have hbl5 : Below w.heap.size w w5 := hbl4.grown hgrow5 hbl4.size (fun k hk => (hlt3 k hk).1)
              go_roundw
              case rel => exact ⟨x2, acc ++ [(Rl.mk false ⟨#[]⟩ j K true (K + 1) x1)], by go_num, by rw [HLA.out, List.length_append]; exact hown5, Lib.hid (by rw [← HG3.out]; simp), by omega, by omega, by rw [List.length_append]; simp; omega, hbl5⟩
              case measure => simp [intOf]; omega
          · obtain rfl : K = E := by omega
            have hRv : R = acc := by rw [← HG2.out, if_neg hKE, List.append_nil]
            subst hRv
            clear HG2 HQ HKS cB hqb
            generalize hq : kdA ts j = q at *
            clear hq
            cases top
            · clear h45
              go_wp2_with fail
              have B1 : Blk (wr.alloc (.cells [.bool false, .string ⟨#[]⟩, .int .i64 0, .int .i64 0, .bool false, .int .i64 0, .int .i64 0].toArray 32)) wr.heap.size [.bool false, .string ⟨#[]⟩, .int .i64 0, .int .i64 0, .bool false, .int .i64 0, .int .i64 0] 32 := Blk.alloc _ _
              have hbl1 := hbl.alloc hbl.size (.cells [.bool false, .string ⟨#[]⟩, .int .i64 0, .int .i64 0, .bool false, .int .i64 0, .int .i64 0].toArray 32)
              have hown1 := hown.alloc (.cells [.bool false, .string ⟨#[]⟩, .int .i64 0, .int .i64 0, .bool false, .int .i64 0, .int .i64 0].toArray 32)
              have hT1 := HW.out.later ((Below.refl wr.heap.size wr).alloc (Nat.le_refl _) (.cells [.bool false, .string ⟨#[]⟩, .int .i64 0, .int .i64 0, .bool false, .int .i64 0, .int .i64 0].toArray 32)) HW.out.lt
              have hp1 := HW.out.lt
              have hlt1 := fun k hk => hown.lt k hk
              generalize hW1 : wr.alloc (.cells [.bool false, .string ⟨#[]⟩, .int .i64 0, .int .i64 0, .bool false, .int .i64 0, .int .i64 0].toArray 32) = w1 at *
              clear hown hbl HW c0 hW1
              generalize wr.heap.size = p at *
              refine (cU1 w1 hT1).mono ?_
              rintro e wq ⟨rfl, hwq⟩; replace hwq := hwq.symm; subst hwq
              clear cU1
              have c0 := B1.cell 0 _ rfl
              have c1 := B1.cell 1 _ rfl
              have c2 := B1.cell 2 _ rfl
              have c3 := B1.cell 3 _ rfl
              have c4 := B1.cell 4 _ rfl
              have c5 := B1.cell 5 _ rfl
              have c6 := B1.cell 6 _ rfl
              have f0 := B1.frozen 0
              have f1 := B1.frozen 1
              have f2 := B1.frozen 2
              have f3 := B1.frozen 3
              have f4 := B1.frozen 4
              have f5 := B1.frozen 5
              have f6 := B1.frozen 6
              go_upto_region 11 with (fail)
              have B2 := B1.set7 (.bool false) (.string ⟨#[]⟩) (.int .i64 j) (.int .i64 K) (.bool true) (.int .i64 0) (.int .i64 0)
              have hbl2 := set7n hbl1 hp2 (.bool false) (.string ⟨#[]⟩) (.int .i64 j) (.int .i64 K) (.bool true) (.int .i64 0) (.int .i64 0)
              have hown2 := hown1.kept (set7g w1 p (.bool false) (.string ⟨#[]⟩) (.int .i64 j) (.int .i64 K) (.bool true) (.int .i64 0) (.int .i64 0)) (.inr (fun e => by have := (hlt1 p e).2; omega))
              have hT2 := hT1.later (set7n (Below.refl p w1) (Nat.le_refl _) (.bool false) (.string ⟨#[]⟩) (.int .i64 j) (.int .i64 K) (.bool true) (.int .i64 0) (.int .i64 0)) hp1
              generalize (((((((w1.setCell ⟨p, 0, none⟩ (Value.bool false)).setCell ⟨p, 1, none⟩ (Value.string ⟨#[]⟩)).setCell ⟨p, 2, none⟩ (Value.int .i64 j)).setCell ⟨p, 3, none⟩ (Value.int .i64 K)).setCell ⟨p, 4, none⟩ (Value.bool true)).setCell ⟨p, 5, none⟩ (Value.int .i64 0)).setCell ⟨p, 6, none⟩ (Value.int .i64 0)) = w2 at *
              clear c0 c1 c2 c3 c4 c5 c6 f0 f1 f2 f3 f4 f5 f6 B1 hbl1 hown1 hT1
              have c0 := B2.cell 0 _ rfl
              have c1 := B2.cell 1 _ rfl
              have c2 := B2.cell 2 _ rfl
              have c3 := B2.cell 3 _ rfl
              have c4 := B2.cell 4 _ rfl
              have c5 := B2.cell 5 _ rfl
              have c6 := B2.cell 6 _ rfl
              have f0 := B2.frozen 0
              have f1 := B2.frozen 1
              have f2 := B2.frozen 2
              have f3 := B2.frozen 3
              have f4 := B2.frozen 4
              have f5 := B2.frozen 5
              have f6 := B2.frozen 6
              go_wp2
              go_ret
              exact ⟨_, rfl, hown2, hbl2⟩
            · have h45 := h45.resolve_left (by simp)
              have n14 : (q == 14) = false := beq_eq_false_iff_ne.2 h45.1
              have n15 : (q == 15) = false := beq_eq_false_iff_ne.2 h45.2
              clear h45
              go_wp2_with fail
              have B1 : Blk (wr.alloc (.cells [.bool false, .string ⟨#[]⟩, .int .i64 0, .int .i64 0, .bool false, .int .i64 0, .int .i64 0].toArray 32)) wr.heap.size [.bool false, .string ⟨#[]⟩, .int .i64 0, .int .i64 0, .bool false, .int .i64 0, .int .i64 0] 32 := Blk.alloc _ _
              have hbl1 := hbl.alloc hbl.size (.cells [.bool false, .string ⟨#[]⟩, .int .i64 0, .int .i64 0, .bool false, .int .i64 0, .int .i64 0].toArray 32)
              have hown1 := hown.alloc (.cells [.bool false, .string ⟨#[]⟩, .int .i64 0, .int .i64 0, .bool false, .int .i64 0, .int .i64 0].toArray 32)
              have hT1 := HW.out.later ((Below.refl wr.heap.size wr).alloc (Nat.le_refl _) (.cells [.bool false, .string ⟨#[]⟩, .int .i64 0, .int .i64 0, .bool false, .int .i64 0, .int .i64 0].toArray 32)) HW.out.lt
              have hp1 := HW.out.lt
              have hlt1 := fun k hk => hown.lt k hk
              generalize hW1 : wr.alloc (.cells [.bool false, .string ⟨#[]⟩, .int .i64 0, .int .i64 0, .bool false, .int .i64 0, .int .i64 0].toArray 32) = w1 at *
              clear hown hbl HW c0 hW1
              generalize wr.heap.size = p at *
              refine (cU1 w1 hT1).mono ?_
              rintro e wq ⟨rfl, hwq⟩; replace hwq := hwq.symm; subst hwq
              clear cU1
              have c0 := B1.cell 0 _ rfl
              have c1 := B1.cell 1 _ rfl
              have c2 := B1.cell 2 _ rfl
              have c3 := B1.cell 3 _ rfl
              have c4 := B1.cell 4 _ rfl
              have c5 := B1.cell 5 _ rfl
              have c6 := B1.cell 6 _ rfl
              have f0 := B1.frozen 0
              have f1 := B1.frozen 1
              have f2 := B1.frozen 2
              have f3 := B1.frozen 3
              have f4 := B1.frozen 4
              have f5 := B1.frozen 5
              have f6 := B1.frozen 6
              go_upto_region 11 with (fail)
              have B2 := B1.set7 (.bool false) (.string ⟨#[]⟩) (.int .i64 j) (.int .i64 K) (.bool true) (.int .i64 0) (.int .i64 0)
              have hbl2 := set7n hbl1 hp2 (.bool false) (.string ⟨#[]⟩) (.int .i64 j) (.int .i64 K) (.bool true) (.int .i64 0) (.int .i64 0)
              have hown2 := hown1.kept (set7g w1 p (.bool false) (.string ⟨#[]⟩) (.int .i64 j) (.int .i64 K) (.bool true) (.int .i64 0) (.int .i64 0)) (.inr (fun e => by have := (hlt1 p e).2; omega))
              have hT2 := hT1.later (set7n (Below.refl p w1) (Nat.le_refl _) (.bool false) (.string ⟨#[]⟩) (.int .i64 j) (.int .i64 K) (.bool true) (.int .i64 0) (.int .i64 0)) hp1
              generalize (((((((w1.setCell ⟨p, 0, none⟩ (Value.bool false)).setCell ⟨p, 1, none⟩ (Value.string ⟨#[]⟩)).setCell ⟨p, 2, none⟩ (Value.int .i64 j)).setCell ⟨p, 3, none⟩ (Value.int .i64 K)).setCell ⟨p, 4, none⟩ (Value.bool true)).setCell ⟨p, 5, none⟩ (Value.int .i64 0)).setCell ⟨p, 6, none⟩ (Value.int .i64 0)) = w2 at *
              clear c0 c1 c2 c3 c4 c5 c6 f0 f1 f2 f3 f4 f5 f6 B1 hbl1 hown1 hT1
              have c0 := B2.cell 0 _ rfl
              have c1 := B2.cell 1 _ rfl
              have c2 := B2.cell 2 _ rfl
              have c3 := B2.cell 3 _ rfl
              have c4 := B2.cell 4 _ rfl
              have c5 := B2.cell 5 _ rfl
              have c6 := B2.cell 6 _ rfl
              have f0 := B2.frozen 0
              have f1 := B2.frozen 1
              have f2 := B2.frozen 2
              have f3 := B2.frozen 3
              have f4 := B2.frozen 4
              have f5 := B2.frozen 5
              have f6 := B2.frozen 6
              go_wp2
              go_ret
              exact ⟨_, rfl, hown2, hbl2⟩
    · obtain rfl : j = E := by omega
      have hRv : R = acc := by rw [← hG.out, rulesF_step, if_neg hj, List.append_nil]
      subst hRv
      clear hG cA cU cB
      go_wp2
      go_ret
      exact ⟨_, rfl, hown, hbl⟩
end
end Go.Proofs.Ytelbjnanpmdnnaa
