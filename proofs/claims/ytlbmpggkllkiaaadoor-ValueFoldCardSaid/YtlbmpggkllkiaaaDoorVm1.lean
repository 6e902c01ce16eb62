/- ValueFold: the law's walk, one of three ways. -/
import Derived.Test.YtlbmpggkllkiaaaDoorVm0
namespace Go.Proofs.YtlbmpggkllkiaaaDoor
open Go.RowKit
set_option linter.unusedVariables false

set_option maxRecDepth 100000 in
set_option maxHeartbeats 4000000 in
theorem fold_main1 (op : Int) (fold : Bool) (t s : ByteArray) (w : World) (hL : LibW w) (h1 : ¬ (1000 : Int) < (t.size : Int)) (h2 : ¬ (1000 : Int) < (s.size : Int)) 
    (hr : holdsF op (strB t) false (strB s) = false) (hh : holdsF op (strB t) true (strB s) = false) :
    Calls Tryd.prog 10 #[.agg #[.int .i64 op, .string t, .bool fold], .string s] w (Told (.bool true) w) := by
  have hA := Blk.alloc (w := w) [.int .i64 op, .string t, .bool fold] 34
  have B1 : Below w.heap.size w (w.alloc (.cells #[.int .i64 op, .string t, .bool fold] 34)) := (Below.refl _ w).alloc (Nat.le_refl _) _
  have HA := Lib.hid hA
  have HL := Lib.hid hL
  have hcs : ∀ (j : Nat), j < s.size → ∃ b : UInt8, (strB s)[j]? = some b := fun j hj => ⟨_, List.getElem?_eq_getElem (by rw [strB_len]; exact hj)⟩
  have HS := Lib.hid hcs
  clear hA hL hcs
  go_enter Tryd.func10, Tryd.ntmps10
  go_wp2_with fail
  refine (speaks6_any _ (HL.out.later B1)).mono ?_
  rintro e w1 ⟨rfl, hb1⟩
  have HA1 := Lib.hid (HA.out.later hb1 HA.out.lt)
  have B2 := below_trans B1 hb1
  obtain ⟨x0, x1, x2⟩ := cells3 HA1.out
  have x3 := HA1.out.frozen 2
  have HA2 : Hid (Blk (w1.setCell ⟨w.heap.size, 2, none⟩ (.bool true)) w.heap.size [.int .i64 op, .string t, .bool true] 34) := Lib.hid (HA1.out.setCell 2 (.bool true))
  have B3 : Below w.heap.size w (w1.setCell ⟨w.heap.size, 2, none⟩ (.bool true)) := B2.setCell (p := ⟨w.heap.size, 2, none⟩) (Nat.le_refl _) _
  clear HA HA1
  obtain ⟨cap, w2, hrun, hcap, hb2, hz2, hcells, hfz⟩ := conv_strW s (w1.setCell ⟨w.heap.size, 2, none⟩ (.bool true))
  have hAlt : w.heap.size < (w1.setCell ⟨w.heap.size, 2, none⟩ (.bool true)).heap.size := HA2.out.lt
  have HA3 := Lib.hid (HA2.out.later hb2 hAlt)
  have B4 := below_trans B3 hb2
  have HC := Lib.hid hcells
  have HF := Lib.hid hfz
  clear hcells hfz HA2
  generalize hg : (w1.setCell ⟨w.heap.size, 2, none⟩ (.bool true)).heap.size = g at *
  have hcap' : (s.size : Int) ≤ (cap : Int) := by omega
  have hwg : w.heap.size < g := hAlt
  have hg2 : g < w2.heap.size := by omega
  go_wp2_with fail
  clear x0 x1 x2 x3 hg
  go_loopw [25] (fun i wr => ∃ k : Nat, k ≤ s.size ∧ i = .int .i64 k ∧ Below w.heap.size w wr ∧ g < wr.heap.size ∧ Hid (Blk wr w.heap.size [.int .i64 op, .string t, .bool true] 34) ∧ Hid (∀ (j : Nat) (b : UInt8), (strB s)[j]? = some b → wr.cell? ⟨g, j, none⟩ = some (.int .u8 (if j < k then upF b.toNat else b.toNat))) ∧ Hid (∀ j, j < s.size → wr.frozen? ⟨g, j, none⟩ = false)) (fun i _ => s.size - (intOf i).toNat)
  case atStart => exact ⟨0, by omega, rfl, B4, hg2, HA3, Lib.hid (fun j b hb => by simpa using HC.out j b hb), HF⟩
  case round =>
    obtain ⟨k, hk, rfl, hbr, hgr, hAr, hc', hf⟩ := hrel
    by_cases hlt : k < s.size
    · obtain ⟨b, hb⟩ := HS.out k hlt
      have c0 : wr.cell? ⟨g, k, none⟩ = some (.int .u8 b.toNat) := by have := hc'.out k b hb; rwa [if_neg (Nat.lt_irrefl k)] at this
      have f0 := hf.out k hlt
      have hbl := b.toNat_lt
      have hlt' : (k : Int) < (s.size : Int) := by omega
      have HNo : Hid (upF b.toNat = (b.toNat : Int) → ∀ (j : Nat) (d : UInt8), (strB s)[j]? = some d → wr.cell? ⟨g, j, none⟩ = some (.int .u8 (if j < k + 1 then upF d.toNat else d.toNat))) := by
        refine Lib.hid (fun he j d hd => ?_)
        rw [hc'.out j d hd]
        by_cases hj : j = k
        · subst hj
          obtain rfl : d = b := by rw [hb] at hd; exact (Option.some.inj hd).symm
          rw [if_neg (Nat.lt_irrefl _), if_pos (Nat.lt_succ_self _), he]
        · by_cases h2 : j < k
          · rw [if_pos h2, if_pos (by omega)]
          · rw [if_neg h2, if_neg (by omega)]
      have HN : Hid (∀ (j : Nat) (d : UInt8), (strB s)[j]? = some d → (wr.setCell ⟨g, k, none⟩ (.int .u8 (upF b.toNat))).cell? ⟨g, j, none⟩ = some (.int .u8 (if j < k + 1 then upF d.toNat else d.toNat))) := by
        refine Lib.hid (fun j d hd => ?_)
        by_cases hj : j = k
        · subst hj
          obtain rfl : d = b := by rw [hb] at hd; exact (Option.some.inj hd).symm
          rw [World.cell?_setCell_same' _ _ _ (by rw [c0]; rfl), if_pos (Nat.lt_succ_self _)]
        · rw [World.cell?_setCell_other _ _ _ _ (by intro h; injection h with _ h2 _; omega), hc'.out j d hd]
          by_cases h2 : j < k
          · rw [if_pos h2, if_pos (by omega)]
          · rw [if_neg h2, if_neg (by omega)]
      have HG : Hid (∀ j, j < s.size → (wr.setCell ⟨g, k, none⟩ (.int .u8 (upF b.toNat))).frozen? ⟨g, j, none⟩ = false) := Lib.hid (fun j hj => by rw [World.frozen?_setCell]; exact hf.out j hj)
      have HAn : Hid (Blk (wr.setCell ⟨g, k, none⟩ (.int .u8 (upF b.toNat))) w.heap.size [.int .i64 op, .string t, .bool true] 34) := Lib.hid (hAr.out.kept (grown_setCell wr g k _) (by simp; omega))
      have hb3 : Below w.heap.size w (wr.setCell ⟨g, k, none⟩ (.int .u8 (upF b.toNat))) := hbr.setCell (p := ⟨g, k, none⟩) (Nat.le_of_lt hwg) _
      have hgn : g < (wr.setCell ⟨g, k, none⟩ (.int .u8 (upF b.toNat))).heap.size := by simpa using hgr
      clear HC HF HA3
      rcases (show (b.toNat : Int) < 97 ∨ (122 : Int) < b.toNat ∨ (97 ≤ (b.toNat : Int) ∧ (b.toNat : Int) ≤ 122) by omega) with q | q | ⟨q0, q1⟩
      · have HN' := Lib.hid (HNo.out (by unfold upF; rw [if_neg (by omega)]))
        have q' : ¬ (97 : Int) ≤ (b.toNat : Int) := by omega
        clear HNo HN HG HAn hb3 hgn hc'
        go_wp2_with fail
        go_roundw
        case rel => exact ⟨k + 1, by omega, by go_num, hbr, hgr, hAr, HN', hf⟩
        case measure => simp [intOf]; omega
      · have HN' := Lib.hid (HNo.out (by unfold upF; rw [if_neg (by omega)]))
        have q' : ¬ (b.toNat : Int) ≤ (122 : Int) := by omega
        have q2 : (97 : Int) ≤ (b.toNat : Int) := by omega
        clear HNo HN HG HAn hb3 hgn hc'
        go_wp2_with fail
        go_roundw
        case rel => exact ⟨k + 1, by omega, by go_num, hbr, hgr, hAr, HN', hf⟩
        case measure => simp [intOf]; omega
      · have hu : upF b.toNat = (b.toNat : Int) - 32 := by unfold upF; rw [if_pos ⟨q0, q1⟩]
        rw [hu] at HN HG HAn hb3 hgn
        clear HNo hc' hu
        go_wp2_with fail
        go_roundw
        case rel => exact ⟨k + 1, by omega, by go_num, hb3, hgn, HAn, HN, HG⟩
        case measure => simp [intOf]; omega
    · have hke : k = s.size := by omega
      subst hke
      have HR : Hid (At wr .u8 g 0 (upL (strB s))) := by
        refine Lib.hid ⟨hgr, fun j hj => ?_⟩
        rw [upL_len] at hj
        obtain ⟨b, hb⟩ := HS.out j hj
        have h := hc'.out j b hb
        rw [if_pos hj] at h
        rw [Nat.zero_add, h]
        unfold upL
        rw [List.getElem?_map, hb]
        rfl
      have hAl := hAr.out.lt
      obtain ⟨x0, x1, x2⟩ := cells3 hAr.out
      have hz : (strOfNums (upL (strB s))).size ≤ 1000000 := by rw [strOfNums_size, upL_len]; omega
      have hC1 := fun w h => holds_any op true t s w (by omega) (by omega) h
      have hC2 := fun w h => holds_any op true t (strOfNums (upL (strB s))) w (by omega) hz h
      have hC3 := fun w h => holds_any op false t s w (by omega) (by omega) h
      rw [strB_up, fold_alike, hh] at hC2
      rw [hh] at hC1
      rw [hr] at hC3
      have HS0 : Hid (FoldS op t s (strOfNums (upL (strB s))) w.heap.size wr.heap.size g cap s.size w (wr.alloc (.cells #[.int .i64 op, .string t, .bool false] 34))) :=
        Lib.hid ⟨hAr.out.alloc_old _, Blk.alloc [.int .i64 op, .string t, .bool false] 34, HR.out.later ((Below.refl _ wr).alloc (Nat.le_refl _) _) hgr, HL.out.later (hbr.alloc (by omega) _), hbr.alloc (by omega) _⟩
      clear HC HF HS HA3 hc' hf hh hr HR
      go_wp2_with fail
      obtain ⟨W0, hW0⟩ : ∃ W0, (wr.alloc (.cells #[.int .i64 op, .string t, .bool false] 34)) = W0 := ⟨_, rfl⟩
      rw [hW0] at HS0 ⊢
      obtain ⟨P, hP⟩ : ∃ P, wr.heap.size = P := ⟨_, rfl⟩
      rw [hP] at HS0 ⊢
      obtain ⟨G, hG⟩ : ∃ G, strOfNums (upL (strB s)) = G := ⟨_, rfl⟩
      have hsay := fun w1 (h : FoldS op t s (strOfNums (upL (strB s))) w.heap.size P g cap s.size w w1) => FoldS.says rfl h
      rw [hG] at HS0 hC2 hsay
      have HSY := Lib.hid hsay
      have HS0 : Hid (FoldS op t s G w.heap.size P g cap s.size w W0.drew) := Lib.hid ⟨HS0.out.1, HS0.out.2.1, HS0.out.2.2.1, HS0.out.2.2.2.1, HS0.out.2.2.2.2.drew⟩
      clear hW0 hP hG hAr hbr hgr hAl x0 x1 x2 hz hsay
      obtain ⟨p0, p1, p2, p3, p4, p5, p6⟩ := HSY.out _ HS0.out
      first
        | (go_region_with (first
            | (go_at_call 24; (with_reducible refine (hC1 _ HS0.out.lib).mono ?_); rintro e w5 ⟨rfl, hb5⟩; have HS1 := Lib.hid (HS0.out.later hb5); obtain ⟨p0, p1, p2, p3, p4, p5, p6⟩ := HSY.out _ HS1.out)
            | (go_at_call 24; (with_reducible refine (hC2 _ HS1.out.lib).mono ?_); rintro e w6 ⟨rfl, hb6⟩; have HS2 := Lib.hid (HS1.out.later hb6); obtain ⟨p0, p1, p2, p3, p4, p5, p6⟩ := HSY.out _ HS2.out)
            | (go_at_call 24; (with_reducible refine (hC3 _ HS2.out.lib).mono ?_); rintro e w7 ⟨rfl, hb7⟩; have HS3 := Lib.hid (HS2.out.later hb7); obtain ⟨p0, p1, p2, p3, p4, p5, p6⟩ := HSY.out _ HS3.out)))
        | fail
      all_goals
        go_wp2
        go_ret
        exact ⟨rfl, HS3.out.below⟩
end Go.Proofs.YtlbmpggkllkiaaaDoor
