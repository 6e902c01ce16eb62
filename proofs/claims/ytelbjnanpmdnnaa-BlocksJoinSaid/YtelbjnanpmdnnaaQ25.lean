/- Texts of mine in one: Bp6 Bp7. -/
import Derived.StillTailTactics
import Derived.Test.YtelbjnanpmdnnaaQ24
namespace Go.Proofs.Ytelbjnanpmdnnaa
section
open Go.RowKit
set_option linter.unusedVariables false
set_option linter.unusedSimpArgs false
theorem atrule_body (ts : List Tk) (E j : Nat) (h : j < E) : atruleF ts E j =
    (⟨true, lowS (txA ts j), (bodyF ts [23, 17] E (j + 1)).1.frm, (bodyF ts [23, 17] E (j + 1)).1.to, (bodyF ts [23, 17] E (j + 1)).1.has, (bodyF ts [23, 17] E (j + 1)).1.opn, (bodyF ts [23, 17] E (j + 1)).1.fin⟩,
      if (bodyF ts [23, 17] E (j + 1)).1.has = true then (bodyF ts [23, 17] E (j + 1)).2
      else if (bodyF ts [23, 17] E (j + 1)).2 < E ∧ kdA ts (bodyF ts [23, 17] E (j + 1)).2 = 17 then (bodyF ts [23, 17] E (j + 1)).2 + 1 else (bodyF ts [23, 17] E (j + 1)).2) := by
  have hc : scanF ts (inK [23, 17]) E (j + 1) = scanF ts (isK2 17 23) E (j + 1) := scanF_congr ts _ _ E (fun k => by
    unfold inK isK2
    by_cases h1 : k = 17 <;> by_cases h2 : k = 23 <;> simp [h1, h2]) _
  have hst := scanF_stop ts (isK2 17 23) E _ (j + 1) (Nat.le_refl _)
  unfold atruleF bodyF
  rw [hc]
  generalize scanF ts (isK2 17 23) E (j + 1) = K at *
  by_cases hK : K < E
  · rw [if_pos hK]
    by_cases h23 : kdA ts K = 23
    · rw [if_pos h23, if_pos ⟨hK, h23⟩]; rfl
    · rw [if_neg h23, if_neg (fun hh => h23 hh.2)]
      have h17 : kdA ts K = 17 := by
        rcases isK2_iff.1 (hst hK) with h | h
        · exact h
        · exact absurd h h23
      dsimp only
      rw [if_neg (by simp), if_pos ⟨hK, h17⟩]
  · rw [if_neg hK, if_neg (fun hh => hK hh.1)]
    dsimp only
    rw [if_neg (by simp), if_neg (fun hh => hK hh.1)]
theorem grown_below {w0 w w' : World} {p : Nat} (h : w0.grownBy w (some p)) (hb : Below w.heap.size w w') : w0.grownBy w' (some p) :=
  ⟨hb.os.trans h.os, hb.tape.trans h.tape, hb.output.trans h.output, Nat.le_trans h.size hb.size, fun i hi hne => (hb.block i (Nat.lt_of_lt_of_le hi h.size)).trans (h.block i hi hne)⟩
theorem bodyF_bounds (ts : List Tk) (ks : List Int) (E j : Nat) (h : j ≤ E) : j ≤ (bodyF ts ks E j).2 ∧ (bodyF ts ks E j).2 ≤ E := by
  have h1 := scanF_bounds ts (inK ks) E j h
  unfold bodyF
  split
  · rename_i h2
    have h3 := blkF_bounds ts E _ h2.1
    dsimp only; omega
  · exact h1
set_option maxRecDepth 100000 in
set_option maxHeartbeats 16000000 in
theorem batrule_any {w : World} {B p b n cap : Nat} {ts : List Tk} {e : Int} {E j : Nat} (h : Rdr w B p b n cap ts e E j) (hj : j < E) (hs : (txA ts j).size ≤ 1000000) :
    Calls Try.prog 28 #[.pointer (some ⟨p, 0, none⟩)] w (RlGo (atruleF ts E j).1 B p b n cap ts e E (atruleF ts E j).2 w) := by
  obtain ⟨i0, hi, hz0, hz1, hz2⟩ := info_parts Try.infoRule
  have hpw := h.blk.lt
  have hbB := h.lb
  have hBp := h.lp
  have hle := h.le
  have hbig := h.big
  have hsm := h.small
  have hcap := h.hcap
  have hcap2 := h.hcap2
  have hn := (h.lt (Nat.le_refl _) hj).1
  have hn' : (j : Int) < (n : Int) := by omega
  have H0 := Lib.hid h
  have hbd := bodyF_bounds ts [23, 17] E (j + 1) (by omega)
  have HX : Hid _ := Lib.hid (atrule_body ts E j hj)
  have cL := fun w' => lower_any (txA ts j) w' (by omega)
  generalize hY : bodyF ts [23, 17] E (j + 1) = Y at *
  have HY := Lib.hid hY
  generalize hLo : lowS (txA ts j) = L at *
  generalize htx : txA ts j = tx at *
  have Htx := Lib.hid htx
  generalize atruleF ts E j = X at *
  clear h hY hLo htx
  go_enter Try.func28, Try.ntmps28
  go_upto_region 1 with (fail)
  have b1 : Blk (w.alloc (.cells [.bool false, .string ⟨#[]⟩, .int .i64 0, .int .i64 0, .bool false, .int .i64 0, .int .i64 0].toArray 32)) w.heap.size [.bool false, .string ⟨#[]⟩, .int .i64 0, .int .i64 0, .bool false, .int .i64 0, .int .i64 0] 32 := Blk.alloc _ _
  have H1 := Lib.hid (H0.out.later ((Below.refl w.heap.size w).alloc (Nat.le_refl _) (.cells [.bool false, .string ⟨#[]⟩, .int .i64 0, .int .i64 0, .bool false, .int .i64 0, .int .i64 0].toArray 32)))
  have G1 := Lib.hid (World.grownBy_alloc w (.cells [.bool false, .string ⟨#[]⟩, .int .i64 0, .int .i64 0, .bool false, .int .i64 0, .int .i64 0].toArray 32) (some p))
  have hz1 : w.heap.size < (w.alloc (.cells [.bool false, .string ⟨#[]⟩, .int .i64 0, .int .i64 0, .bool false, .int .i64 0, .int .i64 0].toArray 32)).heap.size := by simp
  generalize hw1 : (w.alloc (.cells [.bool false, .string ⟨#[]⟩, .int .i64 0, .int .i64 0, .bool false, .int .i64 0, .int .i64 0].toArray 32)) = w1 at *
  clear hw1
  have cr0 := H1.out.blk.cell 0 _ rfl
  have cr1 := H1.out.blk.cell 1 _ rfl
  have ctx := H1.out.row.tx j hn
  rw [Htx.out] at ctx
  go_still_tail 11, (by kernel_rfl)
  clear cr0 cr1 ctx
  change wpList _ _ _ _ _ w1.drew
  have H2 := Lib.hid H1.out.drew
  have G2 : Hid (w.grownBy w1.drew (some p)) := Lib.hid (grown_drewN G1.out 1)
  have bR2 := b1.drew
  generalize w1.drew = w2 at *
  clear b1 H1 G1
  have hs2 := G2.out.size
  go_wp2_with fail
  refine (cL _).mono ?_
  rintro e3 w3 ⟨rfl, hb3⟩
  have H3 := Lib.hid (H2.out.later hb3)
  have G3 := Lib.hid (grown_below G2.out hb3)
  have bR3 := bR2.later hb3 bR2.lt
  have hs3 := G3.out.size
  clear bR2 H2 G2 hb3
  have cr1 := H3.out.blk.cell 1 _ rfl
  have fr1 := H3.out.blk.frozen 1
  go_upto_region 3 with (fail)
  clear cr1 fr1
  have h4' := H3.out.at_ (j + 1) (by omega) (by omega)
  have g4' := grown_setCell w3 p 1 (.int .i64 ((j + 1 : Nat) : Int))
  have bR4 := bR3.kept g4' (fun e => by have := Option.some.inj e; omega)
  have G4 := Lib.hid (grown_trans G3.out g4')
  rw [show ((j + 1 : Nat) : Int) = (j : Int) + 1 from by omega] at h4' G4 bR4
  have H4 := Lib.hid h4'
  have hE4 : w3.heap.size = (w3.setCell ⟨p, 1, none⟩ (.int .i64 ((j : Int) + 1))).heap.size := by simp
  try rw [hE4]
  clear hE4
  generalize (w3.setCell ⟨p, 1, none⟩ (.int .i64 ((j : Int) + 1))) = w4 at *
  clear bR3 H3 G3 h4' g4'
  have hs4 := G4.out.size
  go_wp2_with fail
  have Kk1 : KsAt (w4.alloc (.cells [Value.int .i64 23, Value.int .i64 17].toArray 3)) p (some ⟨w4.heap.size, 0, none⟩) 2 [23, 17] := (ks_alloc (w := w4) [23, 17] (by have := H4.out.blk.lt; omega) (by decide))
  have H5 := Lib.hid ((H4.out.later ((Below.refl w4.heap.size w4).alloc (Nat.le_refl _) (.cells [Value.int .i64 23, Value.int .i64 17].toArray 3))))
  have G5 := Lib.hid (grown_drewN (grown_trans G4.out (World.grownBy_alloc w4 (.cells [Value.int .i64 23, Value.int .i64 17].toArray 3) (some p))) 0)
  have G5 : Hid (w.grownBy (w4.alloc (.cells [Value.int .i64 23, Value.int .i64 17].toArray 3)) (some p)) := G5
  have bR5 : Blk (w4.alloc (.cells [Value.int .i64 23, Value.int .i64 17].toArray 3)) w.heap.size [.bool false, .string ⟨#[]⟩, .int .i64 0, .int .i64 0, .bool false, .int .i64 0, .int .i64 0] 32 := (bR4.alloc_old (.cells [Value.int .i64 23, Value.int .i64 17].toArray 3))
  have hz5 : w4.heap.size < (w4.alloc (.cells [Value.int .i64 23, Value.int .i64 17].toArray 3)).heap.size := by show w4.heap.size < (w4.alloc (.cells [Value.int .i64 23, Value.int .i64 17].toArray 3)).heap.size; simp
  have hk5 := H4.out.blk.lt
  generalize (w4.alloc (.cells [Value.int .i64 23, Value.int .i64 17].toArray 3)) = w5 at *
  generalize w4.heap.size = k1 at *
  have HKk1 := Lib.hid Kk1; clear Kk1
  clear bR4 H4 G4
  have cB := bbody_any _ 2 2 [23, 17] H5.out rfl HKk1.out
  rw [HY.out] at cB
  obtain ⟨⟨y0, y1, y2, y3, y4, y5, y6⟩, jn⟩ := Y
  unfold RlGo rlCells at cB
  dsimp only at cB hbd HX
  refine (cB).mono ?_
  rintro e6 w6 ⟨rfl, h6, g6⟩
  have H6 := Lib.hid h6
  have G6 := Lib.hid (grown_trans G5.out g6)
  have bR6 := bR5.kept g6 (fun e => by have := Option.some.inj e; omega)
  have hs6 := G6.out.size
  clear bR5 H5 G5 g6 h6
  clear cB
  go_upto_region 4 with (fail)
  have b7 : Blk (w6.alloc (.cells [.bool y0, .string y1, .int .i64 y2, .int .i64 y3, .bool y4, .int .i64 y5, .int .i64 y6].toArray 32)) w6.heap.size [.bool y0, .string y1, .int .i64 y2, .int .i64 y3, .bool y4, .int .i64 y5, .int .i64 y6] 32 := Blk.alloc _ _
  have H7 := Lib.hid (H6.out.later ((Below.refl w6.heap.size w6).alloc (Nat.le_refl _) (.cells [.bool y0, .string y1, .int .i64 y2, .int .i64 y3, .bool y4, .int .i64 y5, .int .i64 y6].toArray 32)))
  have G7 := Lib.hid (grown_trans G6.out (World.grownBy_alloc w6 (.cells [.bool y0, .string y1, .int .i64 y2, .int .i64 y3, .bool y4, .int .i64 y5, .int .i64 y6].toArray 32) (some p)))
  have hlR7 := bR6.lt
  have bR7 := bR6.alloc_old (.cells [.bool y0, .string y1, .int .i64 y2, .int .i64 y3, .bool y4, .int .i64 y5, .int .i64 y6].toArray 32)
  have hz7 : w6.heap.size < (w6.alloc (.cells [.bool y0, .string y1, .int .i64 y2, .int .i64 y3, .bool y4, .int .i64 y5, .int .i64 y6].toArray 32)).heap.size := by simp
  have hs7 := G6.out.size
  generalize hw7 : (w6.alloc (.cells [.bool y0, .string y1, .int .i64 y2, .int .i64 y3, .bool y4, .int .i64 y5, .int .i64 y6].toArray 32)) = w7 at *
  generalize hg7 : w6.heap.size = q0 at *
  clear hw7 hg7
  clear bR6 H6 G6
  have cX0 := b7.cell 0 _ rfl
  have fX0 := b7.frozen 0
  have cX1 := b7.cell 1 _ rfl
  have fX1 := b7.frozen 1
  go_upto_region 5 with (fail)
  clear cX0 fX0 cX1 fX1
  have g8' := (grown_trans (grown_setCell w7 q0 0 (.bool true)) (grown_setCell (w7.setCell ⟨q0, 0, none⟩ (.bool true)) q0 1 (.string L)))
  have b8 := ((b7.setCell 0 (.bool true)).setCell 1 (.string L))
  have H8 := Lib.hid (H7.out.grown g8' (fun e => by have := Option.some.inj e; omega) (fun e => by have := Option.some.inj e; omega))
  have G8 := Lib.hid (grown_own G7.out g8' (fun q e => by have := Option.some.inj e; omega))
  have bR8 := bR7.kept g8' (fun e => by have := Option.some.inj e; omega)
  have hE8 : w7.heap.size = ((w7.setCell ⟨q0, 0, none⟩ (.bool true)).setCell ⟨q0, 1, none⟩ (.string L)).heap.size := by simp
  try rw [hE8]
  clear hE8
  generalize ((w7.setCell ⟨q0, 0, none⟩ (.bool true)).setCell ⟨q0, 1, none⟩ (.string L)) = w8 at *
  clear bR7 b7 H7 G7 g8'
  cases y4 with
  | true =>
    have hXv := HX.out
    rw [if_pos (show true = true from rfl)] at hXv
    subst hXv
    clear HX HY
    have cX0 := b8.cell 0 _ rfl
    have fX0 := b8.frozen 0
    have cX1 := b8.cell 1 _ rfl
    have fX1 := b8.frozen 1
    have cX2 := b8.cell 2 _ rfl
    have fX2 := b8.frozen 2
    have cX3 := b8.cell 3 _ rfl
    have fX3 := b8.frozen 3
    have cX4 := b8.cell 4 _ rfl
    have fX4 := b8.frozen 4
    have cX5 := b8.cell 5 _ rfl
    have fX5 := b8.frozen 5
    have cX6 := b8.cell 6 _ rfl
    have fX6 := b8.frozen 6
    have cR0 := bR8.cell 0 _ rfl
    have fR0 := bR8.frozen 0
    have cR1 := bR8.cell 1 _ rfl
    have fR1 := bR8.frozen 1
    have cR2 := bR8.cell 2 _ rfl
    have fR2 := bR8.frozen 2
    have cR3 := bR8.cell 3 _ rfl
    have fR3 := bR8.frozen 3
    have cR4 := bR8.cell 4 _ rfl
    have fR4 := bR8.frozen 4
    have cR5 := bR8.cell 5 _ rfl
    have fR5 := bR8.frozen 5
    have cR6 := bR8.cell 6 _ rfl
    have fR6 := bR8.frozen 6
    go_wp2
    refine bodyPost_ret (v := .agg #[.bool true, .string L, .int .i64 y2, .int .i64 y3, .bool true, .int .i64 y5, .int .i64 y6]) (by simp [results, Try.results28, go_sem, cR0, cR1, cR2, cR3, cR4, cR5, cR6]) rfl ⟨rfl, ?_, ?_⟩
    · exact H8.out.grown (set7g w8 w.heap.size _ _ _ _ _ _ _) (fun e => by have := Option.some.inj e; omega) (fun e => by have := Option.some.inj e; omega)
    · exact grown_own G8.out (set7g w8 w.heap.size _ _ _ _ _ _ _) (fun q e => by have := Option.some.inj e; omega)
  | false =>
    have hXv := HX.out
    rw [if_neg (show ¬ (false = true) by simp)] at hXv
    generalize hj2 : (if jn < E ∧ kdA ts jn = 17 then jn + 1 else jn) = j2 at hXv
    subst hXv
    have HJ2 := Lib.hid hj2
    clear HX HY hj2
    have cX4 := b8.cell 4 _ rfl
    have fX4 := b8.frozen 4
    go_wp2_with fail
    clear cX4 fX4
    refine (btake_any 17 H8.out).mono ?_
    rintro e9 w9 ⟨rfl, h9, g9⟩
    have H9 := Lib.hid h9
    have G9 := Lib.hid (grown_trans G8.out g9)
    have bR9 := bR8.kept g9 (fun e => by have := Option.some.inj e; omega)
    have bX9 := b8.kept g9 (fun e => by have := Option.some.inj e; omega)
    have hs9 := G9.out.size
    clear bR8 b8 H8 G8 g9 h9
    have hh := H9.out; rw [HJ2.out] at hh; clear H9; have H9 := Lib.hid hh; clear hh
    generalize (decide (jn < E) && decide (kdA ts jn = 17)) = tk at *
    have cX0 := bX9.cell 0 _ rfl
    have fX0 := bX9.frozen 0
    have cX1 := bX9.cell 1 _ rfl
    have fX1 := bX9.frozen 1
    have cX2 := bX9.cell 2 _ rfl
    have fX2 := bX9.frozen 2
    have cX3 := bX9.cell 3 _ rfl
    have fX3 := bX9.frozen 3
    have cX4 := bX9.cell 4 _ rfl
    have fX4 := bX9.frozen 4
    have cX5 := bX9.cell 5 _ rfl
    have fX5 := bX9.frozen 5
    have cX6 := bX9.cell 6 _ rfl
    have fX6 := bX9.frozen 6
    have cR0 := bR9.cell 0 _ rfl
    have fR0 := bR9.frozen 0
    have cR1 := bR9.cell 1 _ rfl
    have fR1 := bR9.frozen 1
    have cR2 := bR9.cell 2 _ rfl
    have fR2 := bR9.frozen 2
    have cR3 := bR9.cell 3 _ rfl
    have fR3 := bR9.frozen 3
    have cR4 := bR9.cell 4 _ rfl
    have fR4 := bR9.frozen 4
    have cR5 := bR9.cell 5 _ rfl
    have fR5 := bR9.frozen 5
    have cR6 := bR9.cell 6 _ rfl
    have fR6 := bR9.frozen 6
    go_wp2
    refine bodyPost_ret (v := .agg #[.bool true, .string L, .int .i64 y2, .int .i64 y3, .bool false, .int .i64 y5, .int .i64 y6]) (by simp [results, Try.results28, go_sem, cR0, cR1, cR2, cR3, cR4, cR5, cR6]) rfl ⟨rfl, ?_, ?_⟩
    · exact H9.out.grown (set7g w9 w.heap.size _ _ _ _ _ _ _) (fun e => by have := Option.some.inj e; omega) (fun e => by have := Option.some.inj e; omega)
    · exact grown_own G9.out (set7g w9 w.heap.size _ _ _ _ _ _ _) (fun q e => by have := Option.some.inj e; omega)
end

section
open Go.RowKit
set_option linter.unusedVariables false
set_option linter.unusedSimpArgs false
def RuGo (x : Rl) (ok : Bool) (B p b n cap : Nat) (ts : List Tk) (e : Int) (E j : Nat) (w : World) (en : Ending) (w' : World) : Prop := en = .returned (.tuple #[.agg (rlCells x).toArray, .bool ok]) ∧ Rdr w' B p b n cap ts e E j ∧ w.grownBy w' (some p)
def ruleF (ts : List Tk) (E j : Nat) : Rl × Nat := if kdA ts j = 3 then atruleF ts E j else bodyF ts [23] E j
def ruleB (ts : List Tk) (E j : Nat) : Bool := if kdA ts j = 3 then true else (bodyF ts [23] E j).1.has
set_option maxRecDepth 100000 in
set_option maxHeartbeats 16000000 in
theorem brule_any {w : World} {B p b n cap : Nat} {ts : List Tk} {e : Int} {E j : Nat} (h : Rdr w B p b n cap ts e E j) (hj : j < E) (hs : (txA ts j).size ≤ 1000000) :
    Calls Try.prog 23 #[.pointer (some ⟨p, 0, none⟩)] w (RuGo (ruleF ts E j).1 (ruleB ts E j) B p b n cap ts e E (ruleF ts E j).2 w) := by
  obtain ⟨i0, hi, hz0, hz1, hz2⟩ := info_parts Try.infoRule
  have hpw := h.blk.lt
  have hbB := h.lb
  have hBp := h.lp
  have hle := h.le
  have hbig := h.big
  have hsm := h.small
  have H0 := Lib.hid h
  have HX : Hid (ruleF ts E j = if kdA ts j = 3 then atruleF ts E j else bodyF ts [23] E j) := Lib.hid rfl
  have HO : Hid (ruleB ts E j = if kdA ts j = 3 then true else (bodyF ts [23] E j).1.has) := Lib.hid rfl
  generalize ruleF ts E j = X at *
  generalize ruleB ts E j = O at *
  clear h
  go_enter Try.func23, Try.ntmps23
  go_upto_region 1 with (fail)
  have b1 : Blk (w.alloc (.cells [.bool false, .string ⟨#[]⟩, .int .i64 0, .int .i64 0, .bool false, .int .i64 0, .int .i64 0].toArray 32)) w.heap.size [.bool false, .string ⟨#[]⟩, .int .i64 0, .int .i64 0, .bool false, .int .i64 0, .int .i64 0] 32 := Blk.alloc _ _
  have H1 := Lib.hid (H0.out.later ((Below.refl w.heap.size w).alloc (Nat.le_refl _) (.cells [.bool false, .string ⟨#[]⟩, .int .i64 0, .int .i64 0, .bool false, .int .i64 0, .int .i64 0].toArray 32)))
  have G1 := Lib.hid (World.grownBy_alloc w (.cells [.bool false, .string ⟨#[]⟩, .int .i64 0, .int .i64 0, .bool false, .int .i64 0, .int .i64 0].toArray 32) (some p))
  have hz1 : w.heap.size < (w.alloc (.cells [.bool false, .string ⟨#[]⟩, .int .i64 0, .int .i64 0, .bool false, .int .i64 0, .int .i64 0].toArray 32)).heap.size := by simp
  generalize hw1 : (w.alloc (.cells [.bool false, .string ⟨#[]⟩, .int .i64 0, .int .i64 0, .bool false, .int .i64 0, .int .i64 0].toArray 32)) = w1 at *
  clear hw1
  go_wp2_with fail
  have Kk1 : KsAt (w1.alloc (.cells [Value.int .i64 3].toArray 3)) p (some ⟨w1.heap.size, 0, none⟩) 1 [3] := (ks_alloc (w := w1) [3] (by have := H1.out.blk.lt; omega) (by decide))
  have H2 := Lib.hid ((H1.out.later ((Below.refl w1.heap.size w1).alloc (Nat.le_refl _) (.cells [Value.int .i64 3].toArray 3))))
  have G2 := Lib.hid (grown_drewN (grown_trans G1.out (World.grownBy_alloc w1 (.cells [Value.int .i64 3].toArray 3) (some p))) 0)
  have G2 : Hid (w.grownBy (w1.alloc (.cells [Value.int .i64 3].toArray 3)) (some p)) := G2
  have bR2 : Blk (w1.alloc (.cells [Value.int .i64 3].toArray 3)) w.heap.size [.bool false, .string ⟨#[]⟩, .int .i64 0, .int .i64 0, .bool false, .int .i64 0, .int .i64 0] 32 := (b1.alloc_old (.cells [Value.int .i64 3].toArray 3))
  have hz2 : w1.heap.size < (w1.alloc (.cells [Value.int .i64 3].toArray 3)).heap.size := by show w1.heap.size < (w1.alloc (.cells [Value.int .i64 3].toArray 3)).heap.size; simp
  have hk2 := H1.out.blk.lt
  generalize (w1.alloc (.cells [Value.int .i64 3].toArray 3)) = w2 at *
  generalize w1.heap.size = k1 at *
  have HKk1 := Lib.hid Kk1; clear Kk1
  clear b1 H1 G1
  have cI := bis_any _ 1 1 [3] H2.out rfl HKk1.out.1
  have hib : isB2 ts E j [3] = decide (kdA ts j = 3) := by unfold isB2; rw [decide_eq_true hj, Bool.true_and]; simp
  rw [hib] at cI
  clear hib
  by_cases h3 : kdA ts j = 3
  · have hXv : X = atruleF ts E j := by rw [HX.out, if_pos h3]
    have hOv : O = true := by rw [HO.out, if_pos h3]
    subst hXv hOv
    rw [decide_eq_true h3] at cI
    clear HX HO h3
    refine (cI).mono ?_
    rintro e3 w3 ⟨rfl, hq3⟩
    have g3 := quiet_grown hq3 (World.grownBy.refl w2 (some p))
    have h3 := quiet_rdr hq3 H2.out
    have H3 := Lib.hid h3
    have G3 := Lib.hid (grown_trans G2.out g3)
    have bR3 := bR2.kept g3 (fun e => by have := Option.some.inj e; omega)
    have hs3 := G3.out.size
    clear bR2 H2 G2 g3 h3 hq3
    clear cI
    go_wp2_with fail
    have cA := batrule_any H3.out hj hs
    generalize atruleF ts E j = Y at *
    obtain ⟨⟨y0, y1, y2, y3, y4, y5, y6⟩, jn⟩ := Y
    unfold RlGo rlCells at cA
    dsimp only at cA
    refine (cA).mono ?_
    rintro e4 w4 ⟨rfl, h4, g4⟩
    have H4 := Lib.hid h4
    have G4 := Lib.hid (grown_trans G3.out g4)
    have bR4 := bR3.kept g4 (fun e => by have := Option.some.inj e; omega)
    have hs4 := G4.out.size
    clear bR3 H3 G3 g4 h4
    clear cA
    have cR0 := bR4.cell 0 _ rfl
    have fR0 := bR4.frozen 0
    have cR1 := bR4.cell 1 _ rfl
    have fR1 := bR4.frozen 1
    have cR2 := bR4.cell 2 _ rfl
    have fR2 := bR4.frozen 2
    have cR3 := bR4.cell 3 _ rfl
    have fR3 := bR4.frozen 3
    have cR4 := bR4.cell 4 _ rfl
    have fR4 := bR4.frozen 4
    have cR5 := bR4.cell 5 _ rfl
    have fR5 := bR4.frozen 5
    have cR6 := bR4.cell 6 _ rfl
    have fR6 := bR4.frozen 6
    go_wp2
    refine bodyPost_ret (v := .tuple #[.agg #[.bool y0, .string y1, .int .i64 y2, .int .i64 y3, .bool y4, .int .i64 y5, .int .i64 y6], .bool true]) (by simp [results, Try.results23, go_sem, cR0, cR1, cR2, cR3, cR4, cR5, cR6]) rfl ⟨rfl, ?_, ?_⟩
    · exact H4.out.grown (set7g w4 w.heap.size _ _ _ _ _ _ _) (fun e => by have := Option.some.inj e; omega) (fun e => by have := Option.some.inj e; omega)
    · exact grown_own G4.out (set7g w4 w.heap.size _ _ _ _ _ _ _) (fun q e => by have := Option.some.inj e; omega)
  · have hXv : X = bodyF ts [23] E j := by rw [HX.out, if_neg h3]
    have hOv : O = (bodyF ts [23] E j).1.has := by rw [HO.out, if_neg h3]
    subst hXv hOv
    rw [decide_eq_false h3] at cI
    clear HX HO h3
    refine (cI).mono ?_
    rintro e3 w3 ⟨rfl, hq3⟩
    have g3 := quiet_grown hq3 (World.grownBy.refl w2 (some p))
    have h3 := quiet_rdr hq3 H2.out
    have H3 := Lib.hid h3
    have G3 := Lib.hid (grown_trans G2.out g3)
    have bR3 := bR2.kept g3 (fun e => by have := Option.some.inj e; omega)
    have hs3 := G3.out.size
    clear bR2 H2 G2 g3 h3 hq3
    clear cI
    go_wp2_with fail
    have Kk2 : KsAt (w3.alloc (.cells [Value.int .i64 23].toArray 3)) p (some ⟨w3.heap.size, 0, none⟩) 1 [23] := (ks_alloc (w := w3) [23] (by have := H3.out.blk.lt; omega) (by decide))
    have H4 := Lib.hid ((H3.out.later ((Below.refl w3.heap.size w3).alloc (Nat.le_refl _) (.cells [Value.int .i64 23].toArray 3))))
    have G4 := Lib.hid (grown_drewN (grown_trans G3.out (World.grownBy_alloc w3 (.cells [Value.int .i64 23].toArray 3) (some p))) 0)
    have G4 : Hid (w.grownBy (w3.alloc (.cells [Value.int .i64 23].toArray 3)) (some p)) := G4
    have bR4 : Blk (w3.alloc (.cells [Value.int .i64 23].toArray 3)) w.heap.size [.bool false, .string ⟨#[]⟩, .int .i64 0, .int .i64 0, .bool false, .int .i64 0, .int .i64 0] 32 := (bR3.alloc_old (.cells [Value.int .i64 23].toArray 3))
    have hz4 : w3.heap.size < (w3.alloc (.cells [Value.int .i64 23].toArray 3)).heap.size := by show w3.heap.size < (w3.alloc (.cells [Value.int .i64 23].toArray 3)).heap.size; simp
    have hk4 := H3.out.blk.lt
    generalize (w3.alloc (.cells [Value.int .i64 23].toArray 3)) = w4 at *
    generalize w3.heap.size = k2 at *
    have HKk2 := Lib.hid Kk2; clear Kk2
    clear bR3 H3 G3
    have cB := bbody_any _ 1 1 [23] H4.out rfl HKk2.out
    generalize bodyF ts [23] E j = Y at *
    obtain ⟨⟨y0, y1, y2, y3, y4, y5, y6⟩, jn⟩ := Y
    unfold RlGo rlCells at cB
    dsimp only at cB ⊢
    refine (cB).mono ?_
    rintro e5 w5 ⟨rfl, h5, g5⟩
    have H5 := Lib.hid h5
    have G5 := Lib.hid (grown_trans G4.out g5)
    have bR5 := bR4.kept g5 (fun e => by have := Option.some.inj e; omega)
    have hs5 := G5.out.size
    clear bR4 H4 G4 g5 h5
    clear cB
    go_upto_region 4 with (fail)
    have b6 : Blk (w5.alloc (.cells [.bool y0, .string y1, .int .i64 y2, .int .i64 y3, .bool y4, .int .i64 y5, .int .i64 y6].toArray 32)) w5.heap.size [.bool y0, .string y1, .int .i64 y2, .int .i64 y3, .bool y4, .int .i64 y5, .int .i64 y6] 32 := Blk.alloc _ _
    have H6 := Lib.hid (H5.out.later ((Below.refl w5.heap.size w5).alloc (Nat.le_refl _) (.cells [.bool y0, .string y1, .int .i64 y2, .int .i64 y3, .bool y4, .int .i64 y5, .int .i64 y6].toArray 32)))
    have G6 := Lib.hid (grown_trans G5.out (World.grownBy_alloc w5 (.cells [.bool y0, .string y1, .int .i64 y2, .int .i64 y3, .bool y4, .int .i64 y5, .int .i64 y6].toArray 32) (some p)))
    have hlR6 := bR5.lt
    have bR6 := bR5.alloc_old (.cells [.bool y0, .string y1, .int .i64 y2, .int .i64 y3, .bool y4, .int .i64 y5, .int .i64 y6].toArray 32)
    have hz6 : w5.heap.size < (w5.alloc (.cells [.bool y0, .string y1, .int .i64 y2, .int .i64 y3, .bool y4, .int .i64 y5, .int .i64 y6].toArray 32)).heap.size := by simp
    have hs6 := G5.out.size
    generalize hw6 : (w5.alloc (.cells [.bool y0, .string y1, .int .i64 y2, .int .i64 y3, .bool y4, .int .i64 y5, .int .i64 y6].toArray 32)) = w6 at *
    generalize hg6 : w5.heap.size = q0 at *
    clear hw6 hg6
    clear bR5 H5 G5
    have cX0 := b6.cell 0 _ rfl
    have fX0 := b6.frozen 0
    have cX1 := b6.cell 1 _ rfl
    have fX1 := b6.frozen 1
    have cX2 := b6.cell 2 _ rfl
    have fX2 := b6.frozen 2
    have cX3 := b6.cell 3 _ rfl
    have fX3 := b6.frozen 3
    have cX4 := b6.cell 4 _ rfl
    have fX4 := b6.frozen 4
    have cX5 := b6.cell 5 _ rfl
    have fX5 := b6.frozen 5
    have cX6 := b6.cell 6 _ rfl
    have fX6 := b6.frozen 6
    have cR0 := bR6.cell 0 _ rfl
    have fR0 := bR6.frozen 0
    have cR1 := bR6.cell 1 _ rfl
    have fR1 := bR6.frozen 1
    have cR2 := bR6.cell 2 _ rfl
    have fR2 := bR6.frozen 2
    have cR3 := bR6.cell 3 _ rfl
    have fR3 := bR6.frozen 3
    have cR4 := bR6.cell 4 _ rfl
    have fR4 := bR6.frozen 4
    have cR5 := bR6.cell 5 _ rfl
    have fR5 := bR6.frozen 5
    have cR6 := bR6.cell 6 _ rfl
    have fR6 := bR6.frozen 6
    go_region
    go_wp2
    refine bodyPost_ret (v := .tuple #[.agg #[.bool y0, .string y1, .int .i64 y2, .int .i64 y3, .bool y4, .int .i64 y5, .int .i64 y6], .bool y4]) (by simp [results, Try.results23, go_sem, cR0, cR1, cR2, cR3, cR4, cR5, cR6]) rfl ⟨rfl, ?_, ?_⟩
    · exact (H6.out.grown (set7g w6 w.heap.size _ _ _ _ _ _ _) (fun e => by have := Option.some.inj e; omega) (fun e => by have := Option.some.inj e; omega)).drew
    · exact grown_drewN (grown_own G6.out (set7g w6 w.heap.size _ _ _ _ _ _ _) (fun q e => by have := Option.some.inj e; omega)) 1
end
end Go.Proofs.Ytelbjnanpmdnnaa
