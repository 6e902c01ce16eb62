/- Texts of mine in one: Ey5. -/
import Derived.Test.YtcfhggdiccilaaaGreatQ09
namespace Go.Proofs.YtcfhggdiccilaaaGreat
section
open Go.RowKit
set_option linter.unusedVariables false
set_option linter.unusedSimpArgs false
set_option maxRecDepth 100000 in
set_option maxHeartbeats 8000000 in
theorem eplaced_any {w : World} {p : Nat} {E : Ey} {ts : List Tk} {ps : List ByteArray} {st : Es} (h : EyeAt w p E ts ps st) (i : Nat) (hi2 : i ≤ 3000000) (attr : Bool) :
    Calls Tryz.prog 102 #[.pointer (some ⟨p, 0, none⟩), .int .i64 i, .bool attr] w (EP p E ts ps (ePlaced ts ps st i attr) w) := by
  have hbA := (Below.refl w.heap.size w).alloc (Nat.le_refl _) (.cells #[.int .i64 0, .int .i64 0, .string ⟨#[]⟩, .string ⟨#[]⟩, .int .i64 0, .string ⟨#[]⟩, .bool false, .int .i64 0, .int .i64 0, .int .i64 0, .slice none 0 0] 118)
  have B6 : Blk (w.alloc (.cells #[.int .i64 0, .int .i64 0, .string ⟨#[]⟩, .string ⟨#[]⟩, .int .i64 0, .string ⟨#[]⟩, .bool false, .int .i64 0, .int .i64 0, .int .i64 0, .slice none 0 0] 118)) w.heap.size [.int .i64 0, .int .i64 0, .string ⟨#[]⟩, .string ⟨#[]⟩, .int .i64 0, .string ⟨#[]⟩, .bool false, .int .i64 0, .int .i64 0, .int .i64 0, .slice none 0 0] 118 := Blk.alloc [.int .i64 0, .int .i64 0, .string ⟨#[]⟩, .string ⟨#[]⟩, .int .i64 0, .string ⟨#[]⟩, .bool false, .int .i64 0, .int .i64 0, .int .i64 0, .slice none 0 0] _
  have fP := eprefix_any (h.later hbA) i hi2 attr
  have hle := ePrefix_le ts i attr
  obtain ⟨T, hT⟩ : ∃ T, ePrefix ts i attr = T := ⟨_, rfl⟩
  have hR : ePlaced ts ps st i attr = (if T = i then (placeF 0 ⟨#[]⟩, i, st) else if T = i + 1 then (placeF 2 ⟨#[]⟩, T, st) else if eSign ts i ⟨#[42]⟩ then (placeF 1 ⟨#[]⟩, T, st) else (placeF 3 (strOfNums (eTok ts i).text), T, if hasE ps (strOfNums (eTok ts i).text) then st else eFail ts st 14 i)) := by
    unfold ePlaced
    rw [hT]
  rw [hT] at fP hle
  obtain ⟨R, hR'⟩ : ∃ R, ePlaced ts ps st i attr = R := ⟨_, rfl⟩
  rw [hR']
  rw [hR'] at hR
  have HR := Lib.hid hR
  have HE := Lib.hid h
  have HB6 := Lib.hid B6
  have HBA := Lib.hid hbA
  have hiI : (i : Int) ≤ 3000000 := by omega
  have hTI : (T : Int) ≤ 3000002 := by omega
  have HI := Lib.hid hi2
  clear h hR hR' hT hbA B6
  by_cases h1 : T = i
  · subst h1
    have HRv := Lib.hid (show R = (placeF 0 ⟨#[]⟩, T, st) from by have := HR.out; rwa [if_pos rfl] at this)
    clear HR
    have q : ((T : Int) == (T : Int)) = true := beq_self_eq_true _
    go_enter Tryz.func102, Tryz.ntmps102
    go_wp2_with (go_at_call 117; (with_reducible refine fP.mono ?_); rintro e w1 ⟨rfl, hb1⟩; have C6 := HB6.out.later hb1 HB6.out.lt; have y0 := fun (o : Obj) => (show (w1.alloc o).cell? ⟨w.heap.size, 0, none⟩ = _ from (C6.alloc_old o).cell 0 _ rfl); have g0 := fun (o : Obj) => (show (w1.alloc o).frozen? ⟨w.heap.size, 0, none⟩ = false from (C6.alloc_old o).frozen 0); have y1 := fun (o : Obj) => (show (w1.alloc o).cell? ⟨w.heap.size, 1, none⟩ = _ from (C6.alloc_old o).cell 1 _ rfl); have g1 := fun (o : Obj) => (show (w1.alloc o).frozen? ⟨w.heap.size, 1, none⟩ = false from (C6.alloc_old o).frozen 1); have y2 := fun (o : Obj) => (show (w1.alloc o).cell? ⟨w.heap.size, 2, none⟩ = _ from (C6.alloc_old o).cell 2 _ rfl); have g2 := fun (o : Obj) => (show (w1.alloc o).frozen? ⟨w.heap.size, 2, none⟩ = false from (C6.alloc_old o).frozen 2); have y3 := fun (o : Obj) => (show (w1.alloc o).cell? ⟨w.heap.size, 3, none⟩ = _ from (C6.alloc_old o).cell 3 _ rfl); have g3 := fun (o : Obj) => (show (w1.alloc o).frozen? ⟨w.heap.size, 3, none⟩ = false from (C6.alloc_old o).frozen 3); have y4 := fun (o : Obj) => (show (w1.alloc o).cell? ⟨w.heap.size, 4, none⟩ = _ from (C6.alloc_old o).cell 4 _ rfl); have g4 := fun (o : Obj) => (show (w1.alloc o).frozen? ⟨w.heap.size, 4, none⟩ = false from (C6.alloc_old o).frozen 4); have y5 := fun (o : Obj) => (show (w1.alloc o).cell? ⟨w.heap.size, 5, none⟩ = _ from (C6.alloc_old o).cell 5 _ rfl); have g5 := fun (o : Obj) => (show (w1.alloc o).frozen? ⟨w.heap.size, 5, none⟩ = false from (C6.alloc_old o).frozen 5); have y6 := fun (o : Obj) => (show (w1.alloc o).cell? ⟨w.heap.size, 6, none⟩ = _ from (C6.alloc_old o).cell 6 _ rfl); have g6 := fun (o : Obj) => (show (w1.alloc o).frozen? ⟨w.heap.size, 6, none⟩ = false from (C6.alloc_old o).frozen 6); have y7 := fun (o : Obj) => (show (w1.alloc o).cell? ⟨w.heap.size, 7, none⟩ = _ from (C6.alloc_old o).cell 7 _ rfl); have g7 := fun (o : Obj) => (show (w1.alloc o).frozen? ⟨w.heap.size, 7, none⟩ = false from (C6.alloc_old o).frozen 7); have y8 := fun (o : Obj) => (show (w1.alloc o).cell? ⟨w.heap.size, 8, none⟩ = _ from (C6.alloc_old o).cell 8 _ rfl); have g8 := fun (o : Obj) => (show (w1.alloc o).frozen? ⟨w.heap.size, 8, none⟩ = false from (C6.alloc_old o).frozen 8); have y9 := fun (o : Obj) => (show (w1.alloc o).cell? ⟨w.heap.size, 9, none⟩ = _ from (C6.alloc_old o).cell 9 _ rfl); have g9 := fun (o : Obj) => (show (w1.alloc o).frozen? ⟨w.heap.size, 9, none⟩ = false from (C6.alloc_old o).frozen 9); have y10 := fun (o : Obj) => (show (w1.alloc o).cell? ⟨w.heap.size, 10, none⟩ = _ from (C6.alloc_old o).cell 10 _ rfl); have g10 := fun (o : Obj) => (show (w1.alloc o).frozen? ⟨w.heap.size, 10, none⟩ = false from (C6.alloc_old o).frozen 10))
    have F := setAll_blkE [.int .i64 0, .int .i64 0, .string ⟨#[]⟩, .string ⟨#[]⟩, .int .i64 0, .string ⟨#[]⟩, .bool false, .int .i64 0, .int .i64 0, .int .i64 0, .slice none 0 0] 0 _ _ (C6.alloc_old (.cells #[.int .i64 0, .int .i64 0, .string ⟨#[]⟩, .string ⟨#[]⟩, .int .i64 0, .string ⟨#[]⟩, .bool false, .int .i64 0, .int .i64 0, .int .i64 0, .slice none 0 0] 118))
    have r0 := F.cell 0 _ rfl
    have r1 := F.cell 1 _ rfl
    have r2 := F.cell 2 _ rfl
    have r3 := F.cell 3 _ rfl
    have r4 := F.cell 4 _ rfl
    have r5 := F.cell 5 _ rfl
    have r6 := F.cell 6 _ rfl
    have r7 := F.cell 7 _ rfl
    have r8 := F.cell 8 _ rfl
    have r9 := F.cell 9 _ rfl
    have r10 := F.cell 10 _ rfl
    change bodyPost _ _ _ _ _ (setAllE (w1.alloc (.cells #[.int .i64 0, .int .i64 0, .string ⟨#[]⟩, .string ⟨#[]⟩, .int .i64 0, .string ⟨#[]⟩, .bool false, .int .i64 0, .int .i64 0, .int .i64 0, .slice none 0 0] 118)) w.heap.size 0 [.int .i64 0, .int .i64 0, .string ⟨#[]⟩, .string ⟨#[]⟩, .int .i64 0, .string ⟨#[]⟩, .bool false, .int .i64 0, .int .i64 0, .int .i64 0, .slice none 0 0])
    refine bodyPost_ret (v := .tuple #[.agg #[.int .i64 0, .int .i64 0, .string ⟨#[]⟩, .string ⟨#[]⟩, .int .i64 0, .string ⟨#[]⟩, .bool false, .int .i64 0, .int .i64 0, .int .i64 0, .slice none 0 0], .int .i64 (T : Nat)]) (by simp [results, Tryz.results102, go_sem, r0, r1, r2, r3, r4, r5, r6, r7, r8, r9, r10]) rfl ?_
    have hbF := setAll_belowE (Nat.le_refl w.heap.size) [.int .i64 0, .int .i64 0, .string ⟨#[]⟩, .string ⟨#[]⟩, .int .i64 0, .string ⟨#[]⟩, .bool false, .int .i64 0, .int .i64 0, .int .i64 0, .slice none 0 0] 0 _ ((HBA.out.trans (hb1.mono HBA.out.size)).alloc (HBA.out.trans (hb1.mono HBA.out.size)).size (.cells #[.int .i64 0, .int .i64 0, .string ⟨#[]⟩, .string ⟨#[]⟩, .int .i64 0, .string ⟨#[]⟩, .bool false, .int .i64 0, .int .i64 0, .int .i64 0, .slice none 0 0] 118))
    rw [HRv.out]
    exact ⟨rfl, HE.out.later hbF, GB.of_below hbF⟩
  have q1 : ((T : Int) == (i : Int)) = false := beq_eq_false_iff_ne.2 (by omega)
  by_cases h2 : T = i + 1
  · subst h2
    have HRv := Lib.hid (show R = (placeF 2 ⟨#[]⟩, i + 1, st) from by have := HR.out; rwa [if_neg h1, if_pos rfl] at this)
    clear HR
    have q2 : ((i : Int) + 1 == (i : Int) + 1) = true := beq_self_eq_true _
    have q3 : ((i : Int) + 1 == (i : Int)) = false := beq_eq_false_iff_ne.2 (by omega)
    clear h1 q1
    go_enter Tryz.func102, Tryz.ntmps102
    go_wp2_with (go_at_call 117; (with_reducible refine fP.mono ?_); rintro e w1 ⟨rfl, hb1⟩; have C6 := HB6.out.later hb1 HB6.out.lt; have y0 := fun (o : Obj) => (show (w1.alloc o).cell? ⟨w.heap.size, 0, none⟩ = _ from (C6.alloc_old o).cell 0 _ rfl); have g0 := fun (o : Obj) => (show (w1.alloc o).frozen? ⟨w.heap.size, 0, none⟩ = false from (C6.alloc_old o).frozen 0); have y1 := fun (o : Obj) => (show (w1.alloc o).cell? ⟨w.heap.size, 1, none⟩ = _ from (C6.alloc_old o).cell 1 _ rfl); have g1 := fun (o : Obj) => (show (w1.alloc o).frozen? ⟨w.heap.size, 1, none⟩ = false from (C6.alloc_old o).frozen 1); have y2 := fun (o : Obj) => (show (w1.alloc o).cell? ⟨w.heap.size, 2, none⟩ = _ from (C6.alloc_old o).cell 2 _ rfl); have g2 := fun (o : Obj) => (show (w1.alloc o).frozen? ⟨w.heap.size, 2, none⟩ = false from (C6.alloc_old o).frozen 2); have y3 := fun (o : Obj) => (show (w1.alloc o).cell? ⟨w.heap.size, 3, none⟩ = _ from (C6.alloc_old o).cell 3 _ rfl); have g3 := fun (o : Obj) => (show (w1.alloc o).frozen? ⟨w.heap.size, 3, none⟩ = false from (C6.alloc_old o).frozen 3); have y4 := fun (o : Obj) => (show (w1.alloc o).cell? ⟨w.heap.size, 4, none⟩ = _ from (C6.alloc_old o).cell 4 _ rfl); have g4 := fun (o : Obj) => (show (w1.alloc o).frozen? ⟨w.heap.size, 4, none⟩ = false from (C6.alloc_old o).frozen 4); have y5 := fun (o : Obj) => (show (w1.alloc o).cell? ⟨w.heap.size, 5, none⟩ = _ from (C6.alloc_old o).cell 5 _ rfl); have g5 := fun (o : Obj) => (show (w1.alloc o).frozen? ⟨w.heap.size, 5, none⟩ = false from (C6.alloc_old o).frozen 5); have y6 := fun (o : Obj) => (show (w1.alloc o).cell? ⟨w.heap.size, 6, none⟩ = _ from (C6.alloc_old o).cell 6 _ rfl); have g6 := fun (o : Obj) => (show (w1.alloc o).frozen? ⟨w.heap.size, 6, none⟩ = false from (C6.alloc_old o).frozen 6); have y7 := fun (o : Obj) => (show (w1.alloc o).cell? ⟨w.heap.size, 7, none⟩ = _ from (C6.alloc_old o).cell 7 _ rfl); have g7 := fun (o : Obj) => (show (w1.alloc o).frozen? ⟨w.heap.size, 7, none⟩ = false from (C6.alloc_old o).frozen 7); have y8 := fun (o : Obj) => (show (w1.alloc o).cell? ⟨w.heap.size, 8, none⟩ = _ from (C6.alloc_old o).cell 8 _ rfl); have g8 := fun (o : Obj) => (show (w1.alloc o).frozen? ⟨w.heap.size, 8, none⟩ = false from (C6.alloc_old o).frozen 8); have y9 := fun (o : Obj) => (show (w1.alloc o).cell? ⟨w.heap.size, 9, none⟩ = _ from (C6.alloc_old o).cell 9 _ rfl); have g9 := fun (o : Obj) => (show (w1.alloc o).frozen? ⟨w.heap.size, 9, none⟩ = false from (C6.alloc_old o).frozen 9); have y10 := fun (o : Obj) => (show (w1.alloc o).cell? ⟨w.heap.size, 10, none⟩ = _ from (C6.alloc_old o).cell 10 _ rfl); have g10 := fun (o : Obj) => (show (w1.alloc o).frozen? ⟨w.heap.size, 10, none⟩ = false from (C6.alloc_old o).frozen 10))
    have F := setAll_blkE [.int .i64 0, .int .i64 2, .string ⟨#[]⟩, .string ⟨#[]⟩, .int .i64 0, .string ⟨#[]⟩, .bool false, .int .i64 0, .int .i64 0, .int .i64 0, .slice none 0 0] 0 _ _ (C6.alloc_old (.cells #[.int .i64 0, .int .i64 2, .string ⟨#[]⟩, .string ⟨#[]⟩, .int .i64 0, .string ⟨#[]⟩, .bool false, .int .i64 0, .int .i64 0, .int .i64 0, .slice none 0 0] 118))
    have r0 := F.cell 0 _ rfl
    have r1 := F.cell 1 _ rfl
    have r2 := F.cell 2 _ rfl
    have r3 := F.cell 3 _ rfl
    have r4 := F.cell 4 _ rfl
    have r5 := F.cell 5 _ rfl
    have r6 := F.cell 6 _ rfl
    have r7 := F.cell 7 _ rfl
    have r8 := F.cell 8 _ rfl
    have r9 := F.cell 9 _ rfl
    have r10 := F.cell 10 _ rfl
    change bodyPost _ _ _ _ _ (setAllE (w1.alloc (.cells #[.int .i64 0, .int .i64 2, .string ⟨#[]⟩, .string ⟨#[]⟩, .int .i64 0, .string ⟨#[]⟩, .bool false, .int .i64 0, .int .i64 0, .int .i64 0, .slice none 0 0] 118)) w.heap.size 0 [.int .i64 0, .int .i64 2, .string ⟨#[]⟩, .string ⟨#[]⟩, .int .i64 0, .string ⟨#[]⟩, .bool false, .int .i64 0, .int .i64 0, .int .i64 0, .slice none 0 0])
    refine bodyPost_ret (v := .tuple #[.agg #[.int .i64 0, .int .i64 2, .string ⟨#[]⟩, .string ⟨#[]⟩, .int .i64 0, .string ⟨#[]⟩, .bool false, .int .i64 0, .int .i64 0, .int .i64 0, .slice none 0 0], .int .i64 (i + 1 : Nat)]) (by simp [results, Tryz.results102, go_sem, r0, r1, r2, r3, r4, r5, r6, r7, r8, r9, r10]) rfl ?_
    have hbF := setAll_belowE (Nat.le_refl w.heap.size) [.int .i64 0, .int .i64 2, .string ⟨#[]⟩, .string ⟨#[]⟩, .int .i64 0, .string ⟨#[]⟩, .bool false, .int .i64 0, .int .i64 0, .int .i64 0, .slice none 0 0] 0 _ ((HBA.out.trans (hb1.mono HBA.out.size)).alloc (HBA.out.trans (hb1.mono HBA.out.size)).size (.cells #[.int .i64 0, .int .i64 2, .string ⟨#[]⟩, .string ⟨#[]⟩, .int .i64 0, .string ⟨#[]⟩, .bool false, .int .i64 0, .int .i64 0, .int .i64 0, .slice none 0 0] 118))
    rw [HRv.out]
    exact ⟨rfl, HE.out.later hbF, GB.of_below hbF⟩
  have q2 : ((T : Int) == (i : Int) + 1) = false := beq_eq_false_iff_ne.2 (by omega)
  have hbB := fun w1 (hb1 : Below (w.alloc (.cells #[.int .i64 0, .int .i64 0, .string ⟨#[]⟩, .string ⟨#[]⟩, .int .i64 0, .string ⟨#[]⟩, .bool false, .int .i64 0, .int .i64 0, .int .i64 0, .slice none 0 0] 118)).heap.size (w.alloc (.cells #[.int .i64 0, .int .i64 0, .string ⟨#[]⟩, .string ⟨#[]⟩, .int .i64 0, .string ⟨#[]⟩, .bool false, .int .i64 0, .int .i64 0, .int .i64 0, .slice none 0 0] 118)) w1) => (HBA.out.trans (hb1.mono HBA.out.size)).alloc (HBA.out.trans (hb1.mono HBA.out.size)).size (.cells #[.int .i64 0, .int .i64 0, .string ⟨#[]⟩, .string ⟨#[]⟩, .int .i64 0, .string ⟨#[]⟩, .bool false, .int .i64 0, .int .i64 0, .int .i64 0, .slice none 0 0] 118)
  have HBB := Lib.hid hbB
  have HS := Lib.hid (fun w' (hb : Below w.heap.size w w') => esign_any (HE.out.later hb) i (by omega) ⟨#[42]⟩)
  clear hbB
  obtain ⟨sg, hsg⟩ : ∃ sg, eSign ts i ⟨#[42]⟩ = sg := ⟨_, rfl⟩
  have HSG := Lib.hid hsg
  clear hsg
  cases sg with
  | true =>
    have HRv := Lib.hid (show R = (placeF 1 ⟨#[]⟩, T, st) from by have := HR.out; rwa [if_neg h1, if_neg h2, if_pos HSG.out] at this)
    clear HR h1 h2
    go_enter Tryz.func102, Tryz.ntmps102
    go_wp2_with (first
      | (go_at_call 117; (with_reducible refine fP.mono ?_); rintro e w1 ⟨rfl, hb1⟩; have f3 := HS.out _ (HBB.out w1 hb1); rw [HSG.out] at f3; have C6 := HB6.out.later hb1 HB6.out.lt; have C6a := Lib.hid (C6.alloc_old (.cells #[.int .i64 0, .int .i64 0, .string ⟨#[]⟩, .string ⟨#[]⟩, .int .i64 0, .string ⟨#[]⟩, .bool false, .int .i64 0, .int .i64 0, .int .i64 0, .slice none 0 0] 118)); have D8a := Lib.hid (show Blk (w1.alloc (.cells #[.int .i64 0, .int .i64 0, .string ⟨#[]⟩, .string ⟨#[]⟩, .int .i64 0, .string ⟨#[]⟩, .bool false, .int .i64 0, .int .i64 0, .int .i64 0, .slice none 0 0] 118)) w1.heap.size [.int .i64 0, .int .i64 0, .string ⟨#[]⟩, .string ⟨#[]⟩, .int .i64 0, .string ⟨#[]⟩, .bool false, .int .i64 0, .int .i64 0, .int .i64 0, .slice none 0 0] 118 from Blk.alloc [.int .i64 0, .int .i64 0, .string ⟨#[]⟩, .string ⟨#[]⟩, .int .i64 0, .string ⟨#[]⟩, .bool false, .int .i64 0, .int .i64 0, .int .i64 0, .slice none 0 0] _); have HB1 := Lib.hid (HBB.out w1 hb1); have hw1 := Lib.hid (Nat.lt_of_lt_of_le HB6.out.lt hb1.size))
      | (go_at_call 104; (with_reducible refine f3.mono ?_); rintro e w2 ⟨rfl, hb2⟩; have D8 := D8a.out.later hb2 D8a.out.lt; have C8 := C6a.out.later hb2 C6a.out.lt; have d1 := D8.cell 1 _ rfl; have e1 := D8.frozen 1; have E8 := D8.setCell 1 (.int .i64 1); have G8 := C8.kept (grown_setCell w2 w1.heap.size 1 (.int .i64 1)) (by intro h; have := Option.some.inj h; have := hw1.out; omega); have k0 := E8.cell 0 _ rfl; have k1 := E8.cell 1 _ rfl; have k2 := E8.cell 2 _ rfl; have k3 := E8.cell 3 _ rfl; have k4 := E8.cell 4 _ rfl; have k5 := E8.cell 5 _ rfl; have k6 := E8.cell 6 _ rfl; have k7 := E8.cell 7 _ rfl; have k8 := E8.cell 8 _ rfl; have k9 := E8.cell 9 _ rfl; have k10 := E8.cell 10 _ rfl; have y0 := G8.cell 0 _ rfl; have y1 := G8.cell 1 _ rfl; have y2 := G8.cell 2 _ rfl; have y3 := G8.cell 3 _ rfl; have y4 := G8.cell 4 _ rfl; have y5 := G8.cell 5 _ rfl; have y6 := G8.cell 6 _ rfl; have y7 := G8.cell 7 _ rfl; have y8 := G8.cell 8 _ rfl; have y9 := G8.cell 9 _ rfl; have y10 := G8.cell 10 _ rfl; have g0 := G8.frozen 0; have g1 := G8.frozen 1; have g2 := G8.frozen 2; have g3 := G8.frozen 3; have g4 := G8.frozen 4; have g5 := G8.frozen 5; have g6 := G8.frozen 6; have g7 := G8.frozen 7; have g8 := G8.frozen 8; have g9 := G8.frozen 9; have g10 := G8.frozen 10))
    have F := setAll_blkE [.int .i64 0, .int .i64 1, .string ⟨#[]⟩, .string ⟨#[]⟩, .int .i64 0, .string ⟨#[]⟩, .bool false, .int .i64 0, .int .i64 0, .int .i64 0, .slice none 0 0] 0 _ _ (G8)
    have r0 := F.cell 0 _ rfl
    have r1 := F.cell 1 _ rfl
    have r2 := F.cell 2 _ rfl
    have r3 := F.cell 3 _ rfl
    have r4 := F.cell 4 _ rfl
    have r5 := F.cell 5 _ rfl
    have r6 := F.cell 6 _ rfl
    have r7 := F.cell 7 _ rfl
    have r8 := F.cell 8 _ rfl
    have r9 := F.cell 9 _ rfl
    have r10 := F.cell 10 _ rfl
    change bodyPost _ _ _ _ _ (setAllE (w2.setCell ⟨w1.heap.size, 1, none⟩ (.int .i64 1)) w.heap.size 0 [.int .i64 0, .int .i64 1, .string ⟨#[]⟩, .string ⟨#[]⟩, .int .i64 0, .string ⟨#[]⟩, .bool false, .int .i64 0, .int .i64 0, .int .i64 0, .slice none 0 0])
    refine bodyPost_ret (v := .tuple #[.agg #[.int .i64 0, .int .i64 1, .string ⟨#[]⟩, .string ⟨#[]⟩, .int .i64 0, .string ⟨#[]⟩, .bool false, .int .i64 0, .int .i64 0, .int .i64 0, .slice none 0 0], .int .i64 (T : Nat)]) (by simp [results, Tryz.results102, go_sem, r0, r1, r2, r3, r4, r5, r6, r7, r8, r9, r10]) rfl ?_
    have hbF := setAll_belowE (Nat.le_refl w.heap.size) [.int .i64 0, .int .i64 1, .string ⟨#[]⟩, .string ⟨#[]⟩, .int .i64 0, .string ⟨#[]⟩, .bool false, .int .i64 0, .int .i64 0, .int .i64 0, .slice none 0 0] 0 _ ((HB1.out.trans (hb2.mono HB1.out.size)).setCell (p := ⟨w1.heap.size, 1, none⟩) (Nat.le_of_lt hw1.out) (.int .i64 1))
    rw [HRv.out]
    exact ⟨rfl, HE.out.later hbF, GB.of_below hbF⟩
  | false =>
  have HT := Lib.hid (fun w' (hb : Below w.heap.size w w') => tok_any (HE.out.later hb) i (by omega))
  obtain ⟨tx, htx⟩ : ∃ tx, strOfNums (eTok ts i).text = tx := ⟨_, rfl⟩
  have HRv := Lib.hid (show R = (placeF 3 tx, T, if hasE ps tx then st else eFail ts st 14 i) from by have := HR.out; rwa [if_neg h1, if_neg h2, if_neg (by rw [HSG.out]; decide), htx] at this)
  have HTX := Lib.hid htx
  clear HR h1 h2 htx
  have hfd := fld_text (eTok ts i).kind (eTok ts i).frm (eTok ts i).to tx (strOfNums (eTok ts i).num) (eTok ts i).whole
  go_enter Tryz.func102, Tryz.ntmps102
  go_wp2_with (first
    | (go_at_call 117; (with_reducible refine fP.mono ?_); rintro e w1 ⟨rfl, hb1⟩; have f3 := HS.out _ (HBB.out w1 hb1); rw [HSG.out] at f3; have C6 := HB6.out.later hb1 HB6.out.lt; have C6a := Lib.hid (C6.alloc_old (.cells #[.int .i64 0, .int .i64 0, .string ⟨#[]⟩, .string ⟨#[]⟩, .int .i64 0, .string ⟨#[]⟩, .bool false, .int .i64 0, .int .i64 0, .int .i64 0, .slice none 0 0] 118)); have D8a := Lib.hid (show Blk (w1.alloc (.cells #[.int .i64 0, .int .i64 0, .string ⟨#[]⟩, .string ⟨#[]⟩, .int .i64 0, .string ⟨#[]⟩, .bool false, .int .i64 0, .int .i64 0, .int .i64 0, .slice none 0 0] 118)) w1.heap.size [.int .i64 0, .int .i64 0, .string ⟨#[]⟩, .string ⟨#[]⟩, .int .i64 0, .string ⟨#[]⟩, .bool false, .int .i64 0, .int .i64 0, .int .i64 0, .slice none 0 0] 118 from Blk.alloc [.int .i64 0, .int .i64 0, .string ⟨#[]⟩, .string ⟨#[]⟩, .int .i64 0, .string ⟨#[]⟩, .bool false, .int .i64 0, .int .i64 0, .int .i64 0, .slice none 0 0] _); have HB1 := Lib.hid (HBB.out w1 hb1); have hw1 := Lib.hid (Nat.lt_of_lt_of_le HB6.out.lt hb1.size))
    | (go_at_call 104; (with_reducible refine f3.mono ?_); rintro e w2 ⟨rfl, hb2⟩; have D8 := D8a.out.later hb2 D8a.out.lt; have C8 := C6a.out.later hb2 C6a.out.lt; have d1 := D8.cell 1 _ rfl; have e1 := D8.frozen 1; have E8 := D8.setCell 1 (.int .i64 3); have G8 := C8.kept (grown_setCell w2 w1.heap.size 1 (.int .i64 3)) (by intro h; have := Option.some.inj h; have := hw1.out; omega); have f4 := HT.out _ ((HB1.out.trans (hb2.mono HB1.out.size)).setCell (p := ⟨w1.heap.size, 1, none⟩) (Nat.le_of_lt hw1.out) (.int .i64 3)); rw [tkV_eq, HTX.out] at f4)
    | (go_at_call 55; (with_reducible refine f4.mono ?_); rintro e w3 ⟨rfl, hb3⟩; have E9 := E8.later hb3 E8.lt; have G9 := G8.later hb3 G8.lt; have d2 := E9.cell 2 _ rfl; have e2 := E9.frozen 2; have E10 := E9.setCell 2 (.string tx); have G10 := G9.kept (grown_setCell w3 w1.heap.size 2 (.string tx)) (by intro h; have := Option.some.inj h; have := hw1.out; omega); have HB4 := Lib.hid ((((HB1.out.trans (hb2.mono HB1.out.size)).setCell (p := ⟨w1.heap.size, 1, none⟩) (Nat.le_of_lt hw1.out) (.int .i64 3)).trans (hb3.mono ((HB1.out.trans (hb2.mono HB1.out.size)).setCell (p := ⟨w1.heap.size, 1, none⟩) (Nat.le_of_lt hw1.out) (.int .i64 3)).size)).setCell (p := ⟨w1.heap.size, 2, none⟩) (Nat.le_of_lt hw1.out) (.string tx))))
  have h5 := HE.out.later HB4.out
  have H5 := Lib.hid h5
  have c3 : (w3.setCell ⟨w1.heap.size, 2, none⟩ (.string tx)).drew.cell? ⟨p, 3, none⟩ = _ := h5.blk.cell 3 _ rfl
  have k2 : (w3.setCell ⟨w1.heap.size, 2, none⟩ (.string tx)).drew.cell? ⟨w1.heap.size, 2, none⟩ = _ := E10.cell 2 _ rfl
  have fH := ehas_any ps E.pa E.pn E.pc tx (w3.setCell ⟨w1.heap.size, 2, none⟩ (.string tx)).drew (fun b => b < (w3.setCell ⟨w1.heap.size, 2, none⟩ (.string tx)).heap.size ∧ b ≠ p) (fun b hb => hb.1) h5.pres
  have HE10 := Lib.hid E10
  have HG10 := Lib.hid G10
  clear h5 E10 G10 E9 G9 d2 e2 d1 e1 D8 C8 E8 G8
  generalize hW5 : w3.setCell ⟨w1.heap.size, 2, none⟩ (.string tx) = W5 at *
  clear hW5
  obtain ⟨hv, hhv⟩ : ∃ hv, hasE ps tx = hv := ⟨_, rfl⟩
  have HRv := Lib.hid (show R = (placeF 3 tx, T, if hv then st else eFail ts st 14 i) from by rw [HRv.out, hhv])
  rw [hhv] at fH
  clear hhv
  cases hv with
  | true =>
    go_region_with ((go_at_call 52); (with_reducible refine fH.mono ?_); rintro e w6 ⟨rfl, hb6⟩; have A6 := HE10.out.later (show Below W5.heap.size W5 w6 from (Below.refl _ _).drew.trans hb6) HE10.out.lt; have G6 := HG10.out.later (show Below W5.heap.size W5 w6 from (Below.refl _ _).drew.trans hb6) HG10.out.lt; have k0 := A6.cell 0 _ rfl; have k1 := A6.cell 1 _ rfl; have k2 := A6.cell 2 _ rfl; have k3 := A6.cell 3 _ rfl; have k4 := A6.cell 4 _ rfl; have k5 := A6.cell 5 _ rfl; have k6 := A6.cell 6 _ rfl; have k7 := A6.cell 7 _ rfl; have k8 := A6.cell 8 _ rfl; have k9 := A6.cell 9 _ rfl; have k10 := A6.cell 10 _ rfl; have y0 := G6.cell 0 _ rfl; have y1 := G6.cell 1 _ rfl; have y2 := G6.cell 2 _ rfl; have y3 := G6.cell 3 _ rfl; have y4 := G6.cell 4 _ rfl; have y5 := G6.cell 5 _ rfl; have y6 := G6.cell 6 _ rfl; have y7 := G6.cell 7 _ rfl; have y8 := G6.cell 8 _ rfl; have y9 := G6.cell 9 _ rfl; have y10 := G6.cell 10 _ rfl; have g0 := G6.frozen 0; have g1 := G6.frozen 1; have g2 := G6.frozen 2; have g3 := G6.frozen 3; have g4 := G6.frozen 4; have g5 := G6.frozen 5; have g6 := G6.frozen 6; have g7 := G6.frozen 7; have g8 := G6.frozen 8; have g9 := G6.frozen 9; have g10 := G6.frozen 10)
    all_goals
      go_wp2
      have F := setAll_blkE [.int .i64 0, .int .i64 3, .string tx, .string ⟨#[]⟩, .int .i64 0, .string ⟨#[]⟩, .bool false, .int .i64 0, .int .i64 0, .int .i64 0, .slice none 0 0] 0 _ _ (G6)
      have r0 := F.cell 0 _ rfl
      have r1 := F.cell 1 _ rfl
      have r2 := F.cell 2 _ rfl
      have r3 := F.cell 3 _ rfl
      have r4 := F.cell 4 _ rfl
      have r5 := F.cell 5 _ rfl
      have r6 := F.cell 6 _ rfl
      have r7 := F.cell 7 _ rfl
      have r8 := F.cell 8 _ rfl
      have r9 := F.cell 9 _ rfl
      have r10 := F.cell 10 _ rfl
      change bodyPost _ _ _ _ _ (setAllE w6 w.heap.size 0 [.int .i64 0, .int .i64 3, .string tx, .string ⟨#[]⟩, .int .i64 0, .string ⟨#[]⟩, .bool false, .int .i64 0, .int .i64 0, .int .i64 0, .slice none 0 0])
      refine bodyPost_ret (v := .tuple #[.agg #[.int .i64 0, .int .i64 3, .string tx, .string ⟨#[]⟩, .int .i64 0, .string ⟨#[]⟩, .bool false, .int .i64 0, .int .i64 0, .int .i64 0, .slice none 0 0], .int .i64 (T : Nat)]) (by simp [results, Tryz.results102, go_sem, r0, r1, r2, r3, r4, r5, r6, r7, r8, r9, r10]) rfl ?_
      have hbF := setAll_belowE (Nat.le_refl w.heap.size) [.int .i64 0, .int .i64 3, .string tx, .string ⟨#[]⟩, .int .i64 0, .string ⟨#[]⟩, .bool false, .int .i64 0, .int .i64 0, .int .i64 0, .slice none 0 0] 0 _ (HB4.out.trans ((show Below W5.heap.size W5 w6 from (Below.refl _ _).drew.trans hb6).mono HB4.out.size))
      rw [HRv.out]
      exact ⟨rfl, HE.out.later hbF, GB.of_below hbF⟩
  | false =>
    go_region_with ((go_at_call 52); (with_reducible refine fH.mono ?_); rintro e w6 ⟨rfl, hb6⟩; have hb56 := (show Below W5.heap.size W5 w6 from (Below.refl _ _).drew.trans hb6); have A6 := HE10.out.later hb56 HE10.out.lt; have G6 := HG10.out.later hb56 HG10.out.lt; have fF := efail_any (H5.out.later hb56) 14 i (by omega))
    all_goals
      have HA6 := Lib.hid A6
      have HG6 := Lib.hid G6
      have hne : Hid (p ≠ w.heap.size ∧ p ≠ w1.heap.size) := Lib.hid ⟨by have := HE.out.blk.lt; omega, by have := HE.out.blk.lt; have := hw1.out; omega⟩
      go_wp2_with (go_at_call 56; (with_reducible refine fF.mono ?_); rintro e w7 ⟨rfl, h7, hg7⟩; have A7 := HA6.out.kept hg7 (by intro h; exact hne.out.2 (Option.some.inj h)); have G7 := HG6.out.kept hg7 (by intro h; exact hne.out.1 (Option.some.inj h)); have k0 := A7.cell 0 _ rfl; have k1 := A7.cell 1 _ rfl; have k2 := A7.cell 2 _ rfl; have k3 := A7.cell 3 _ rfl; have k4 := A7.cell 4 _ rfl; have k5 := A7.cell 5 _ rfl; have k6 := A7.cell 6 _ rfl; have k7 := A7.cell 7 _ rfl; have k8 := A7.cell 8 _ rfl; have k9 := A7.cell 9 _ rfl; have k10 := A7.cell 10 _ rfl; have y0 := G7.cell 0 _ rfl; have y1 := G7.cell 1 _ rfl; have y2 := G7.cell 2 _ rfl; have y3 := G7.cell 3 _ rfl; have y4 := G7.cell 4 _ rfl; have y5 := G7.cell 5 _ rfl; have y6 := G7.cell 6 _ rfl; have y7 := G7.cell 7 _ rfl; have y8 := G7.cell 8 _ rfl; have y9 := G7.cell 9 _ rfl; have y10 := G7.cell 10 _ rfl; have g0 := G7.frozen 0; have g1 := G7.frozen 1; have g2 := G7.frozen 2; have g3 := G7.frozen 3; have g4 := G7.frozen 4; have g5 := G7.frozen 5; have g6 := G7.frozen 6; have g7 := G7.frozen 7; have g8 := G7.frozen 8; have g9 := G7.frozen 9; have g10 := G7.frozen 10)
      have F := setAll_blkE [.int .i64 0, .int .i64 3, .string tx, .string ⟨#[]⟩, .int .i64 0, .string ⟨#[]⟩, .bool false, .int .i64 0, .int .i64 0, .int .i64 0, .slice none 0 0] 0 _ _ (G7)
      have r0 := F.cell 0 _ rfl
      have r1 := F.cell 1 _ rfl
      have r2 := F.cell 2 _ rfl
      have r3 := F.cell 3 _ rfl
      have r4 := F.cell 4 _ rfl
      have r5 := F.cell 5 _ rfl
      have r6 := F.cell 6 _ rfl
      have r7 := F.cell 7 _ rfl
      have r8 := F.cell 8 _ rfl
      have r9 := F.cell 9 _ rfl
      have r10 := F.cell 10 _ rfl
      change bodyPost _ _ _ _ _ (setAllE w7 w.heap.size 0 [.int .i64 0, .int .i64 3, .string tx, .string ⟨#[]⟩, .int .i64 0, .string ⟨#[]⟩, .bool false, .int .i64 0, .int .i64 0, .int .i64 0, .slice none 0 0])
      refine bodyPost_ret (v := .tuple #[.agg #[.int .i64 0, .int .i64 3, .string tx, .string ⟨#[]⟩, .int .i64 0, .string ⟨#[]⟩, .bool false, .int .i64 0, .int .i64 0, .int .i64 0, .slice none 0 0], .int .i64 (T : Nat)]) (by simp [results, Tryz.results102, go_sem, r0, r1, r2, r3, r4, r5, r6, r7, r8, r9, r10]) rfl ?_
      have hg5 : GB w w6 p := GB.of_below (HB4.out.trans (hb56.mono HB4.out.size))
      have hGF := gb_setAll (hg5.trans hg7) (Nat.le_refl w.heap.size) [.int .i64 0, .int .i64 3, .string tx, .string ⟨#[]⟩, .int .i64 0, .string ⟨#[]⟩, .bool false, .int .i64 0, .int .i64 0, .int .i64 0, .slice none 0 0] 0
      rw [HRv.out]
      exact ⟨rfl, HE.out.grown hGF (by rw [Blk]; exact (setAll_oldE hne.out.1 _ _ _).trans h7.blk), hGF⟩
end
end Go.Proofs.YtcfhggdiccilaaaGreat
