/- Texts of mine in one: Ey6 Ey7 Ey8. -/
import Derived.Test.YtcfhggdiccilaaaGreatQ10
import Derived.OwnWalk
import Derived.Laws.AppendOwnNone
namespace Go.Proofs.YtcfhggdiccilaaaGreat
section
open Go.RowKit
set_option linter.unusedVariables false
set_option linter.unusedSimpArgs false
def flatZ : Flat := ⟨0, 0, ⟨#[]⟩, ⟨#[]⟩, 0, ⟨#[]⟩, false, 0, 0, 0⟩
set_option maxRecDepth 100000 in
set_option maxHeartbeats 8000000 in
theorem esimple_id {w : World} {p : Nat} {E : Ey} {ts : List Tk} {ps : List ByteArray} {st : Es} (h : EyeAt w p E ts ps st) (i : Nat) (hi2 : i ≤ 3000000) (outer : Bool) (deep : Int) (va : Option Addr) (vn vc : Nat)
    (hk : (eTok ts i).kind = 4) (hw : (eTok ts i).whole = true) :
    Calls Tryz.prog 105 #[.pointer (some ⟨p, 0, none⟩), .int .i64 i, .bool outer, .int .i64 deep, .slice va vn vc] w (EP p E ts ps (⟨4, 0, ⟨#[]⟩, strOfNums (eTok ts i).text, 0, ⟨#[]⟩, false, 0, 0, 0⟩, i + 1, st) w) := by
  have hbA := (Below.refl w.heap.size w).alloc (Nat.le_refl _) (.cells #[.int .i64 0, .int .i64 0, .string ⟨#[]⟩, .string ⟨#[]⟩, .int .i64 0, .string ⟨#[]⟩, .bool false, .int .i64 0, .int .i64 0, .int .i64 0, .slice none 0 0] 118)
  have B6 : Blk (w.alloc (.cells #[.int .i64 0, .int .i64 0, .string ⟨#[]⟩, .string ⟨#[]⟩, .int .i64 0, .string ⟨#[]⟩, .bool false, .int .i64 0, .int .i64 0, .int .i64 0, .slice none 0 0] 118)) w.heap.size [.int .i64 0, .int .i64 0, .string ⟨#[]⟩, .string ⟨#[]⟩, .int .i64 0, .string ⟨#[]⟩, .bool false, .int .i64 0, .int .i64 0, .int .i64 0, .slice none 0 0] 118 := Blk.alloc [.int .i64 0, .int .i64 0, .string ⟨#[]⟩, .string ⟨#[]⟩, .int .i64 0, .string ⟨#[]⟩, .bool false, .int .i64 0, .int .i64 0, .int .i64 0, .slice none 0 0] _
  have HE := Lib.hid h
  have HB6 := Lib.hid B6
  have HBA := Lib.hid hbA
  have HI := Lib.hid hi2
  have fT := tok_any (h.later hbA) i (by omega)
  obtain ⟨⟨tk, tf, to, tx, tn, tw⟩, ht⟩ : ∃ t, eTok ts i = t := ⟨_, rfl⟩
  rw [tkV_eq, ht] at fT
  have HT := Lib.hid ht
  obtain ⟨sx, hsx⟩ : ∃ sx, strOfNums tx = sx := ⟨_, rfl⟩
  obtain ⟨sn, hsn⟩ : ∃ sn, strOfNums tn = sn := ⟨_, rfl⟩
  dsimp only at fT
  rw [hsx, hsn] at fT
  have HSX := Lib.hid hsx
  have hiI : (i : Int) ≤ 3000000 := by omega
  rw [ht] at hk hw ⊢
  dsimp only at hk hw ⊢
  subst hk hw
  rw [hsx]
  clear h hbA B6 ht hsx hsn
  go_enter Tryz.func105, Tryz.ntmps105
  go_wp2_with (go_at_call 55; (with_reducible refine fT.mono ?_); rintro e w1 ⟨rfl, hb1⟩; have C6 := HB6.out.later hb1 HB6.out.lt; have y0 := fun (o : Obj) => (show (w1.alloc o).cell? ⟨w.heap.size, 0, none⟩ = _ from (C6.alloc_old o).cell 0 _ rfl); have g0 := fun (o : Obj) => (show (w1.alloc o).frozen? ⟨w.heap.size, 0, none⟩ = false from (C6.alloc_old o).frozen 0); have y1 := fun (o : Obj) => (show (w1.alloc o).cell? ⟨w.heap.size, 1, none⟩ = _ from (C6.alloc_old o).cell 1 _ rfl); have g1 := fun (o : Obj) => (show (w1.alloc o).frozen? ⟨w.heap.size, 1, none⟩ = false from (C6.alloc_old o).frozen 1); have y2 := fun (o : Obj) => (show (w1.alloc o).cell? ⟨w.heap.size, 2, none⟩ = _ from (C6.alloc_old o).cell 2 _ rfl); have g2 := fun (o : Obj) => (show (w1.alloc o).frozen? ⟨w.heap.size, 2, none⟩ = false from (C6.alloc_old o).frozen 2); have y3 := fun (o : Obj) => (show (w1.alloc o).cell? ⟨w.heap.size, 3, none⟩ = _ from (C6.alloc_old o).cell 3 _ rfl); have g3 := fun (o : Obj) => (show (w1.alloc o).frozen? ⟨w.heap.size, 3, none⟩ = false from (C6.alloc_old o).frozen 3); have y4 := fun (o : Obj) => (show (w1.alloc o).cell? ⟨w.heap.size, 4, none⟩ = _ from (C6.alloc_old o).cell 4 _ rfl); have g4 := fun (o : Obj) => (show (w1.alloc o).frozen? ⟨w.heap.size, 4, none⟩ = false from (C6.alloc_old o).frozen 4); have y5 := fun (o : Obj) => (show (w1.alloc o).cell? ⟨w.heap.size, 5, none⟩ = _ from (C6.alloc_old o).cell 5 _ rfl); have g5 := fun (o : Obj) => (show (w1.alloc o).frozen? ⟨w.heap.size, 5, none⟩ = false from (C6.alloc_old o).frozen 5); have y6 := fun (o : Obj) => (show (w1.alloc o).cell? ⟨w.heap.size, 6, none⟩ = _ from (C6.alloc_old o).cell 6 _ rfl); have g6 := fun (o : Obj) => (show (w1.alloc o).frozen? ⟨w.heap.size, 6, none⟩ = false from (C6.alloc_old o).frozen 6); have y7 := fun (o : Obj) => (show (w1.alloc o).cell? ⟨w.heap.size, 7, none⟩ = _ from (C6.alloc_old o).cell 7 _ rfl); have g7 := fun (o : Obj) => (show (w1.alloc o).frozen? ⟨w.heap.size, 7, none⟩ = false from (C6.alloc_old o).frozen 7); have y8 := fun (o : Obj) => (show (w1.alloc o).cell? ⟨w.heap.size, 8, none⟩ = _ from (C6.alloc_old o).cell 8 _ rfl); have g8 := fun (o : Obj) => (show (w1.alloc o).frozen? ⟨w.heap.size, 8, none⟩ = false from (C6.alloc_old o).frozen 8); have y9 := fun (o : Obj) => (show (w1.alloc o).cell? ⟨w.heap.size, 9, none⟩ = _ from (C6.alloc_old o).cell 9 _ rfl); have g9 := fun (o : Obj) => (show (w1.alloc o).frozen? ⟨w.heap.size, 9, none⟩ = false from (C6.alloc_old o).frozen 9); have y10 := fun (o : Obj) => (show (w1.alloc o).cell? ⟨w.heap.size, 10, none⟩ = _ from (C6.alloc_old o).cell 10 _ rfl); have g10 := fun (o : Obj) => (show (w1.alloc o).frozen? ⟨w.heap.size, 10, none⟩ = false from (C6.alloc_old o).frozen 10))
  have F := setAll_blkE [.int .i64 4, .int .i64 0, .string ⟨#[]⟩, .string sx, .int .i64 0, .string ⟨#[]⟩, .bool false, .int .i64 0, .int .i64 0, .int .i64 0, .slice none 0 0] 0 _ _ (C6.alloc_old (.cells #[.int .i64 4, .int .i64 tf, .int .i64 to, .string sx, .string sn, .bool true] 93))
  have r0 := F.cell 0 _ rfl
  have r1 := F.cell 1 _ rfl
  have r2 := F.cell 2 _ rfl
  have r3 := F.cell 3 _ rfl
  have r4 := F.cell 4 _ rfl
  have r5 := F.cell 5 _ rfl
  have r6 := F.cell 6 _ rfl
  have r7 := F.cell 7 _ rfl
  have r8 := F.cell 8 _ rfl
  have r9 := F.cell 9 _ rfl
  have r10 := F.cell 10 _ rfl
  change bodyPost _ _ _ _ _ (setAllE (w1.alloc (.cells #[.int .i64 4, .int .i64 tf, .int .i64 to, .string sx, .string sn, .bool true] 93)) w.heap.size 0 [.int .i64 4, .int .i64 0, .string ⟨#[]⟩, .string sx, .int .i64 0, .string ⟨#[]⟩, .bool false, .int .i64 0, .int .i64 0, .int .i64 0, .slice none 0 0])
  refine bodyPost_ret (v := .tuple #[.agg #[.int .i64 4, .int .i64 0, .string ⟨#[]⟩, .string sx, .int .i64 0, .string ⟨#[]⟩, .bool false, .int .i64 0, .int .i64 0, .int .i64 0, .slice none 0 0], .int .i64 (i + 1 : Nat)]) (by simp [results, Tryz.results105, go_sem, r0, r1, r2, r3, r4, r5, r6, r7, r8, r9, r10]) rfl ?_
  have hb3 := (HBA.out.trans (hb1.mono HBA.out.size)).alloc (HBA.out.trans (hb1.mono HBA.out.size)).size (.cells #[.int .i64 4, .int .i64 tf, .int .i64 to, .string sx, .string sn, .bool true] 93)
  have hbF := setAll_belowE (Nat.le_refl w.heap.size) [.int .i64 4, .int .i64 0, .string ⟨#[]⟩, .string sx, .int .i64 0, .string ⟨#[]⟩, .bool false, .int .i64 0, .int .i64 0, .int .i64 0, .slice none 0 0] 0 _ hb3
  exact ⟨rfl, HE.out.later hbF, GB.of_below hbF⟩
set_option maxRecDepth 100000 in
set_option maxHeartbeats 8000000 in
theorem esimple_dot {w : World} {p : Nat} {E : Ey} {ts : List Tk} {ps : List ByteArray} {st : Es} (h : EyeAt w p E ts ps st) (i : Nat) (hi2 : i ≤ 3000000) (outer : Bool) (deep : Int) (va : Option Addr) (vn vc : Nat)
    (hs : eSign ts i ⟨#[46]⟩ = true) :
    Calls Tryz.prog 105 #[.pointer (some ⟨p, 0, none⟩), .int .i64 i, .bool outer, .int .i64 deep, .slice va vn vc] w (EP p E ts ps (⟨3, 0, ⟨#[]⟩, strOfNums (eTok ts (i + 1)).text, 0, ⟨#[]⟩, false, 0, 0, 0⟩, i + 2, if eName ts (i + 1) then st else eFail ts st 10 (i + 1)) w) := by
  have hbA := (Below.refl w.heap.size w).alloc (Nat.le_refl _) (.cells #[.int .i64 0, .int .i64 0, .string ⟨#[]⟩, .string ⟨#[]⟩, .int .i64 0, .string ⟨#[]⟩, .bool false, .int .i64 0, .int .i64 0, .int .i64 0, .slice none 0 0] 118)
  have B6 : Blk (w.alloc (.cells #[.int .i64 0, .int .i64 0, .string ⟨#[]⟩, .string ⟨#[]⟩, .int .i64 0, .string ⟨#[]⟩, .bool false, .int .i64 0, .int .i64 0, .int .i64 0, .slice none 0 0] 118)) w.heap.size [.int .i64 0, .int .i64 0, .string ⟨#[]⟩, .string ⟨#[]⟩, .int .i64 0, .string ⟨#[]⟩, .bool false, .int .i64 0, .int .i64 0, .int .i64 0, .slice none 0 0] 118 := Blk.alloc [.int .i64 0, .int .i64 0, .string ⟨#[]⟩, .string ⟨#[]⟩, .int .i64 0, .string ⟨#[]⟩, .bool false, .int .i64 0, .int .i64 0, .int .i64 0, .slice none 0 0] _
  have HE := Lib.hid h
  have HB6 := Lib.hid B6
  have HBA := Lib.hid hbA
  have HI := Lib.hid hi2
  have fT := tok_any (h.later hbA) i (by omega)
  obtain ⟨⟨tk, tf, to, tx, tn, tw⟩, ht⟩ : ∃ t, eTok ts i = t := ⟨_, rfl⟩
  rw [tkV_eq, ht] at fT
  have HT := Lib.hid ht
  obtain ⟨sx, hsx⟩ : ∃ sx, strOfNums tx = sx := ⟨_, rfl⟩
  obtain ⟨sn, hsn⟩ : ∃ sn, strOfNums tn = sn := ⟨_, rfl⟩
  dsimp only at fT
  rw [hsx, hsn] at fT
  have HSX := Lib.hid hsx
  have hiI : (i : Int) ≤ 3000000 := by omega
  have HFS := Lib.hid (fun w' (hb : Below w.heap.size w w') => esign_any (HE.out.later hb) i (by omega) ⟨#[46]⟩)
  rw [hs] at HFS
  have hk9 : tk = 9 := by
    unfold eSign at hs
    rw [ht] at hs
    simp only [Bool.and_eq_true, decide_eq_true_eq] at hs
    exact hs.1
  subst hk9
  have HFN := Lib.hid (fun w' (hb : Below w.heap.size w w') => ename_any (HE.out.later hb) (i + 1) (by omega))
  have HFT := Lib.hid (fun w' q E' st' (hq : EyeAt w' q E' ts ps st') => tok_any hq (i + 1) (by omega))
  obtain ⟨cx, hcx⟩ : ∃ cx, strOfNums (eTok ts (i + 1)).text = cx := ⟨_, rfl⟩
  have hfd := fld_text (eTok ts (i + 1)).kind (eTok ts (i + 1)).frm (eTok ts (i + 1)).to cx (strOfNums (eTok ts (i + 1)).num) (eTok ts (i + 1)).whole
  obtain ⟨nm, hnm⟩ : ∃ nm, eName ts (i + 1) = nm := ⟨_, rfl⟩
  rw [hnm] at HFN
  rw [hcx, hnm]
  have HCX := Lib.hid hcx
  have HC1 := Lib.hid (Int.natCast_succ i)
  clear h hbA B6 ht hsx hsn hs hcx hnm
  cases nm with
  | true =>
    go_enter Tryz.func105, Tryz.ntmps105
    go_wp2_with (first
      | (go_at_call 55; (with_reducible refine fT.mono ?_); rintro e w1 ⟨rfl, hb1⟩; have C6 := HB6.out.later hb1 HB6.out.lt; have C7 := Lib.hid (C6.alloc_old (.cells #[.int .i64 9, .int .i64 tf, .int .i64 to, .string sx, .string sn, .bool tw] 93)); have HB2 := Lib.hid ((HBA.out.trans (hb1.mono HBA.out.size)).alloc (HBA.out.trans (hb1.mono HBA.out.size)).size (.cells #[.int .i64 9, .int .i64 tf, .int .i64 to, .string sx, .string sn, .bool tw] 93)); have D7 := Lib.hid (show Blk (w1.alloc (.cells #[.int .i64 9, .int .i64 tf, .int .i64 to, .string sx, .string sn, .bool tw] 93)) w1.heap.size [.int .i64 9, .int .i64 tf, .int .i64 to, .string sx, .string sn, .bool tw] 93 from Blk.alloc [.int .i64 9, .int .i64 tf, .int .i64 to, .string sx, .string sn, .bool tw] _); have f2 := HFS.out _ HB2.out)
      | (go_at_call 104; (with_reducible refine f2.mono ?_); rintro e w2 ⟨rfl, hb2⟩; have HB3 := Lib.hid (HB2.out.trans (hb2.mono HB2.out.size)); have f3 := HFN.out _ HB3.out; rw [HC1.out] at f3)
      | (go_at_call 103; (with_reducible refine f3.mono ?_); rintro e w3 ⟨rfl, hb3⟩; have C9 := ((C7.out.later hb2 C7.out.lt).later hb3 (C7.out.later hb2 C7.out.lt).lt); have HB4 := Lib.hid (HB3.out.trans (hb3.mono HB3.out.size)); have f4 := HFT.out _ _ _ _ (HE.out.later HB4.out); rw [tkV_eq, HCX.out, HC1.out] at f4)
      | (go_at_call 55; (with_reducible refine f4.mono ?_); rintro e w4 ⟨rfl, hb4⟩; have C10 := C9.later hb4 C9.lt; have y0 := C10.cell 0 _ rfl; have g0 := C10.frozen 0; have y1 := C10.cell 1 _ rfl; have g1 := C10.frozen 1; have y2 := C10.cell 2 _ rfl; have g2 := C10.frozen 2; have y3 := C10.cell 3 _ rfl; have g3 := C10.frozen 3; have y4 := C10.cell 4 _ rfl; have g4 := C10.frozen 4; have y5 := C10.cell 5 _ rfl; have g5 := C10.frozen 5; have y6 := C10.cell 6 _ rfl; have g6 := C10.frozen 6; have y7 := C10.cell 7 _ rfl; have g7 := C10.frozen 7; have y8 := C10.cell 8 _ rfl; have g8 := C10.frozen 8; have y9 := C10.cell 9 _ rfl; have g9 := C10.frozen 9; have y10 := C10.cell 10 _ rfl; have g10 := C10.frozen 10))
    have F := setAll_blkE [.int .i64 3, .int .i64 0, .string ⟨#[]⟩, .string cx, .int .i64 0, .string ⟨#[]⟩, .bool false, .int .i64 0, .int .i64 0, .int .i64 0, .slice none 0 0] 0 _ _ (C10)
    have r0 := F.cell 0 _ rfl
    have r1 := F.cell 1 _ rfl
    have r2 := F.cell 2 _ rfl
    have r3 := F.cell 3 _ rfl
    have r4 := F.cell 4 _ rfl
    have r5 := F.cell 5 _ rfl
    have r6 := F.cell 6 _ rfl
    have r7 := F.cell 7 _ rfl
    have r8 := F.cell 8 _ rfl
    have r9 := F.cell 9 _ rfl
    have r10 := F.cell 10 _ rfl
    change bodyPost _ _ _ _ _ (setAllE w4 w.heap.size 0 [.int .i64 3, .int .i64 0, .string ⟨#[]⟩, .string cx, .int .i64 0, .string ⟨#[]⟩, .bool false, .int .i64 0, .int .i64 0, .int .i64 0, .slice none 0 0])
    refine bodyPost_ret (v := .tuple #[.agg #[.int .i64 3, .int .i64 0, .string ⟨#[]⟩, .string cx, .int .i64 0, .string ⟨#[]⟩, .bool false, .int .i64 0, .int .i64 0, .int .i64 0, .slice none 0 0], .int .i64 (i + 2 : Nat)]) (by simp [results, Tryz.results105, go_sem, r0, r1, r2, r3, r4, r5, r6, r7, r8, r9, r10]) rfl ?_
    have hbF := setAll_belowE (Nat.le_refl w.heap.size) [.int .i64 3, .int .i64 0, .string ⟨#[]⟩, .string cx, .int .i64 0, .string ⟨#[]⟩, .bool false, .int .i64 0, .int .i64 0, .int .i64 0, .slice none 0 0] 0 _ (HB4.out.trans (hb4.mono HB4.out.size))
    exact ⟨rfl, HE.out.later hbF, GB.of_below hbF⟩
  | false =>
    go_enter Tryz.func105, Tryz.ntmps105
    go_wp2_with (first
      | (go_at_call 55; (with_reducible refine fT.mono ?_); rintro e w1 ⟨rfl, hb1⟩; have C6 := HB6.out.later hb1 HB6.out.lt; have C7 := Lib.hid (C6.alloc_old (.cells #[.int .i64 9, .int .i64 tf, .int .i64 to, .string sx, .string sn, .bool tw] 93)); have HB2 := Lib.hid ((HBA.out.trans (hb1.mono HBA.out.size)).alloc (HBA.out.trans (hb1.mono HBA.out.size)).size (.cells #[.int .i64 9, .int .i64 tf, .int .i64 to, .string sx, .string sn, .bool tw] 93)); have D7 := Lib.hid (show Blk (w1.alloc (.cells #[.int .i64 9, .int .i64 tf, .int .i64 to, .string sx, .string sn, .bool tw] 93)) w1.heap.size [.int .i64 9, .int .i64 tf, .int .i64 to, .string sx, .string sn, .bool tw] 93 from Blk.alloc [.int .i64 9, .int .i64 tf, .int .i64 to, .string sx, .string sn, .bool tw] _); have f2 := HFS.out _ HB2.out)
      | (go_at_call 104; (with_reducible refine f2.mono ?_); rintro e w2 ⟨rfl, hb2⟩; have HB3 := Lib.hid (HB2.out.trans (hb2.mono HB2.out.size)); have f3 := HFN.out _ HB3.out; rw [HC1.out] at f3)
      | (go_at_call 103; (with_reducible refine f3.mono ?_); rintro e w3 ⟨rfl, hb3⟩; have C9 := ((C7.out.later hb2 C7.out.lt).later hb3 (C7.out.later hb2 C7.out.lt).lt); have HB4 := Lib.hid (HB3.out.trans (hb3.mono HB3.out.size)); have f4 := efail_any (HE.out.later HB4.out) 10 (i + 1) (by have := HI.out; omega); rw [HC1.out] at f4)
      | (go_at_call 56; (with_reducible refine f4.mono ?_); rintro e w4 ⟨rfl, h4, hg4⟩; have f5 := HFT.out _ _ _ _ h4; rw [tkV_eq, HCX.out, HC1.out] at f5; have hne : p ≠ w.heap.size := (by have := HE.out.blk.lt; omega); have HNE := Lib.hid hne; have C10 := Lib.hid (C9.kept hg4 (by intro hh; exact HNE.out (Option.some.inj hh))); have H4 := Lib.hid h4; have HG4 := Lib.hid hg4; clear h4 hg4 hne)
      | (go_at_call 55; (with_reducible refine f5.mono ?_); rintro e w5 ⟨rfl, hb5⟩; have C11 := C10.out.later hb5 C10.out.lt; have y0 := C11.cell 0 _ rfl; have g0 := C11.frozen 0; have y1 := C11.cell 1 _ rfl; have g1 := C11.frozen 1; have y2 := C11.cell 2 _ rfl; have g2 := C11.frozen 2; have y3 := C11.cell 3 _ rfl; have g3 := C11.frozen 3; have y4 := C11.cell 4 _ rfl; have g4 := C11.frozen 4; have y5 := C11.cell 5 _ rfl; have g5 := C11.frozen 5; have y6 := C11.cell 6 _ rfl; have g6 := C11.frozen 6; have y7 := C11.cell 7 _ rfl; have g7 := C11.frozen 7; have y8 := C11.cell 8 _ rfl; have g8 := C11.frozen 8; have y9 := C11.cell 9 _ rfl; have g9 := C11.frozen 9; have y10 := C11.cell 10 _ rfl; have g10 := C11.frozen 10))
    have F := setAll_blkE [.int .i64 3, .int .i64 0, .string ⟨#[]⟩, .string cx, .int .i64 0, .string ⟨#[]⟩, .bool false, .int .i64 0, .int .i64 0, .int .i64 0, .slice none 0 0] 0 _ _ (C11)
    have r0 := F.cell 0 _ rfl
    have r1 := F.cell 1 _ rfl
    have r2 := F.cell 2 _ rfl
    have r3 := F.cell 3 _ rfl
    have r4 := F.cell 4 _ rfl
    have r5 := F.cell 5 _ rfl
    have r6 := F.cell 6 _ rfl
    have r7 := F.cell 7 _ rfl
    have r8 := F.cell 8 _ rfl
    have r9 := F.cell 9 _ rfl
    have r10 := F.cell 10 _ rfl
    change bodyPost _ _ _ _ _ (setAllE w5 w.heap.size 0 [.int .i64 3, .int .i64 0, .string ⟨#[]⟩, .string cx, .int .i64 0, .string ⟨#[]⟩, .bool false, .int .i64 0, .int .i64 0, .int .i64 0, .slice none 0 0])
    refine bodyPost_ret (v := .tuple #[.agg #[.int .i64 3, .int .i64 0, .string ⟨#[]⟩, .string cx, .int .i64 0, .string ⟨#[]⟩, .bool false, .int .i64 0, .int .i64 0, .int .i64 0, .slice none 0 0], .int .i64 (i + 2 : Nat)]) (by simp [results, Tryz.results105, go_sem, r0, r1, r2, r3, r4, r5, r6, r7, r8, r9, r10]) rfl ?_
    have hG5 : GB w w5 p := ((GB.of_below HB4.out).trans HG4.out).trans (GB.of_below hb5)
    have hGF := gb_setAll hG5 (Nat.le_refl w.heap.size) [.int .i64 3, .int .i64 0, .string ⟨#[]⟩, .string cx, .int .i64 0, .string ⟨#[]⟩, .bool false, .int .i64 0, .int .i64 0, .int .i64 0, .slice none 0 0] 0
    exact ⟨rfl, HE.out.grown hGF (by rw [Blk]; exact (setAll_oldE HNE.out _ _ _).trans ((H4.out.later hb5).blk)), hGF⟩
set_option maxRecDepth 100000 in
set_option maxHeartbeats 8000000 in
theorem esimple_none {w : World} {p : Nat} {E : Ey} {ts : List Tk} {ps : List ByteArray} {st : Es} (h : EyeAt w p E ts ps st) (i : Nat) (hi2 : i ≤ 3000000) (outer : Bool) (deep : Int) (va : Option Addr) (vn vc : Nat)
    (hk : ¬((eTok ts i).kind = 4 ∧ (eTok ts i).whole = true)) (hs : eSign ts i ⟨#[46]⟩ = false) (hk2 : (eTok ts i).kind ≠ 19) (hk3 : (eTok ts i).kind ≠ 16) :
    Calls Tryz.prog 105 #[.pointer (some ⟨p, 0, none⟩), .int .i64 i, .bool outer, .int .i64 deep, .slice va vn vc] w (EP p E ts ps (flatZ, i, st) w) := by
  have hbA := (Below.refl w.heap.size w).alloc (Nat.le_refl _) (.cells #[.int .i64 0, .int .i64 0, .string ⟨#[]⟩, .string ⟨#[]⟩, .int .i64 0, .string ⟨#[]⟩, .bool false, .int .i64 0, .int .i64 0, .int .i64 0, .slice none 0 0] 118)
  have B6 : Blk (w.alloc (.cells #[.int .i64 0, .int .i64 0, .string ⟨#[]⟩, .string ⟨#[]⟩, .int .i64 0, .string ⟨#[]⟩, .bool false, .int .i64 0, .int .i64 0, .int .i64 0, .slice none 0 0] 118)) w.heap.size [.int .i64 0, .int .i64 0, .string ⟨#[]⟩, .string ⟨#[]⟩, .int .i64 0, .string ⟨#[]⟩, .bool false, .int .i64 0, .int .i64 0, .int .i64 0, .slice none 0 0] 118 := Blk.alloc [.int .i64 0, .int .i64 0, .string ⟨#[]⟩, .string ⟨#[]⟩, .int .i64 0, .string ⟨#[]⟩, .bool false, .int .i64 0, .int .i64 0, .int .i64 0, .slice none 0 0] _
  have HE := Lib.hid h
  have HB6 := Lib.hid B6
  have HBA := Lib.hid hbA
  have HI := Lib.hid hi2
  have fT := tok_any (h.later hbA) i (by omega)
  obtain ⟨⟨tk, tf, to, tx, tn, tw⟩, ht⟩ : ∃ t, eTok ts i = t := ⟨_, rfl⟩
  rw [tkV_eq, ht] at fT
  have HT := Lib.hid ht
  obtain ⟨sx, hsx⟩ : ∃ sx, strOfNums tx = sx := ⟨_, rfl⟩
  obtain ⟨sn, hsn⟩ : ∃ sn, strOfNums tn = sn := ⟨_, rfl⟩
  dsimp only at fT
  rw [hsx, hsn] at fT
  have HSX := Lib.hid hsx
  have hiI : (i : Int) ≤ 3000000 := by omega
  have HFS := Lib.hid (fun w' (hb : Below w.heap.size w w') => esign_any (HE.out.later hb) i (by omega) ⟨#[46]⟩)
  have hkt : ((tk == 4) && tw) = false := by
    rw [ht] at hk
    dsimp only at hk
    cases tw <;> simp_all
  rw [hs] at HFS
  rw [ht] at hk2 hk3
  dsimp only at hk2 hk3
  have k1 : (tk == 19) = false := beq_eq_false_iff_ne.2 hk2
  have k2 : (tk != 16) = true := bne_iff_ne.2 hk3
  clear h hbA B6 ht hsx hsn hs hk hk2 hk3
  by_cases k4 : tk = 4
  · subst k4
    have hw : tw = false := by simpa using hkt
    subst hw
    clear hkt
    go_enter Tryz.func105, Tryz.ntmps105
    go_wp2_with (first
      | (go_at_call 55; (with_reducible refine fT.mono ?_); rintro e w1 ⟨rfl, hb1⟩; have C6 := HB6.out.later hb1 HB6.out.lt; have C7 := Lib.hid (C6.alloc_old (.cells #[.int .i64 4, .int .i64 tf, .int .i64 to, .string sx, .string sn, .bool false] 93)); have HB2 := Lib.hid ((HBA.out.trans (hb1.mono HBA.out.size)).alloc (HBA.out.trans (hb1.mono HBA.out.size)).size (.cells #[.int .i64 4, .int .i64 tf, .int .i64 to, .string sx, .string sn, .bool false] 93)); have D7 := Lib.hid (show Blk (w1.alloc (.cells #[.int .i64 4, .int .i64 tf, .int .i64 to, .string sx, .string sn, .bool false] 93)) w1.heap.size [.int .i64 4, .int .i64 tf, .int .i64 to, .string sx, .string sn, .bool false] 93 from Blk.alloc [.int .i64 4, .int .i64 tf, .int .i64 to, .string sx, .string sn, .bool false] _); have f2 := HFS.out _ HB2.out)
      | (go_at_call 104; (with_reducible refine f2.mono ?_); rintro e w2 ⟨rfl, hb2⟩; have C9 := C7.out.later hb2 C7.out.lt; have D9 := D7.out.later hb2 D7.out.lt; have d0 := D9.cell 0 _ rfl; have y0 := C9.cell 0 _ rfl; have g0 := C9.frozen 0; have y1 := C9.cell 1 _ rfl; have g1 := C9.frozen 1; have y2 := C9.cell 2 _ rfl; have g2 := C9.frozen 2; have y3 := C9.cell 3 _ rfl; have g3 := C9.frozen 3; have y4 := C9.cell 4 _ rfl; have g4 := C9.frozen 4; have y5 := C9.cell 5 _ rfl; have g5 := C9.frozen 5; have y6 := C9.cell 6 _ rfl; have g6 := C9.frozen 6; have y7 := C9.cell 7 _ rfl; have g7 := C9.frozen 7; have y8 := C9.cell 8 _ rfl; have g8 := C9.frozen 8; have y9 := C9.cell 9 _ rfl; have g9 := C9.frozen 9; have y10 := C9.cell 10 _ rfl; have g10 := C9.frozen 10))
    have F := setAll_blkE [.int .i64 0, .int .i64 0, .string ⟨#[]⟩, .string ⟨#[]⟩, .int .i64 0, .string ⟨#[]⟩, .bool false, .int .i64 0, .int .i64 0, .int .i64 0, .slice none 0 0] 0 _ _ (C9)
    have r0 := F.cell 0 _ rfl
    have r1 := F.cell 1 _ rfl
    have r2 := F.cell 2 _ rfl
    have r3 := F.cell 3 _ rfl
    have r4 := F.cell 4 _ rfl
    have r5 := F.cell 5 _ rfl
    have r6 := F.cell 6 _ rfl
    have r7 := F.cell 7 _ rfl
    have r8 := F.cell 8 _ rfl
    have r9 := F.cell 9 _ rfl
    have r10 := F.cell 10 _ rfl
    change bodyPost _ _ _ _ _ (setAllE w2 w.heap.size 0 [.int .i64 0, .int .i64 0, .string ⟨#[]⟩, .string ⟨#[]⟩, .int .i64 0, .string ⟨#[]⟩, .bool false, .int .i64 0, .int .i64 0, .int .i64 0, .slice none 0 0])
    refine bodyPost_ret (v := .tuple #[.agg #[.int .i64 0, .int .i64 0, .string ⟨#[]⟩, .string ⟨#[]⟩, .int .i64 0, .string ⟨#[]⟩, .bool false, .int .i64 0, .int .i64 0, .int .i64 0, .slice none 0 0], .int .i64 (i : Nat)]) (by simp [results, Tryz.results105, go_sem, r0, r1, r2, r3, r4, r5, r6, r7, r8, r9, r10]) rfl ?_
    have hbF := setAll_belowE (Nat.le_refl w.heap.size) [.int .i64 0, .int .i64 0, .string ⟨#[]⟩, .string ⟨#[]⟩, .int .i64 0, .string ⟨#[]⟩, .bool false, .int .i64 0, .int .i64 0, .int .i64 0, .slice none 0 0] 0 _ (HB2.out.trans (hb2.mono HB2.out.size))
    exact ⟨rfl, HE.out.later hbF, GB.of_below hbF⟩
  · have k5 : (tk == 4) = false := beq_eq_false_iff_ne.2 k4
    clear hkt k4
    go_enter Tryz.func105, Tryz.ntmps105
    go_wp2_with (first
      | (go_at_call 55; (with_reducible refine fT.mono ?_); rintro e w1 ⟨rfl, hb1⟩; have C6 := HB6.out.later hb1 HB6.out.lt; have C7 := Lib.hid (C6.alloc_old (.cells #[.int .i64 tk, .int .i64 tf, .int .i64 to, .string sx, .string sn, .bool tw] 93)); have HB2 := Lib.hid ((HBA.out.trans (hb1.mono HBA.out.size)).alloc (HBA.out.trans (hb1.mono HBA.out.size)).size (.cells #[.int .i64 tk, .int .i64 tf, .int .i64 to, .string sx, .string sn, .bool tw] 93)); have D7 := Lib.hid (show Blk (w1.alloc (.cells #[.int .i64 tk, .int .i64 tf, .int .i64 to, .string sx, .string sn, .bool tw] 93)) w1.heap.size [.int .i64 tk, .int .i64 tf, .int .i64 to, .string sx, .string sn, .bool tw] 93 from Blk.alloc [.int .i64 tk, .int .i64 tf, .int .i64 to, .string sx, .string sn, .bool tw] _); have f2 := HFS.out _ HB2.out)
      | (go_at_call 104; (with_reducible refine f2.mono ?_); rintro e w2 ⟨rfl, hb2⟩; have C9 := C7.out.later hb2 C7.out.lt; have D9 := D7.out.later hb2 D7.out.lt; have d0 := D9.cell 0 _ rfl; have y0 := C9.cell 0 _ rfl; have g0 := C9.frozen 0; have y1 := C9.cell 1 _ rfl; have g1 := C9.frozen 1; have y2 := C9.cell 2 _ rfl; have g2 := C9.frozen 2; have y3 := C9.cell 3 _ rfl; have g3 := C9.frozen 3; have y4 := C9.cell 4 _ rfl; have g4 := C9.frozen 4; have y5 := C9.cell 5 _ rfl; have g5 := C9.frozen 5; have y6 := C9.cell 6 _ rfl; have g6 := C9.frozen 6; have y7 := C9.cell 7 _ rfl; have g7 := C9.frozen 7; have y8 := C9.cell 8 _ rfl; have g8 := C9.frozen 8; have y9 := C9.cell 9 _ rfl; have g9 := C9.frozen 9; have y10 := C9.cell 10 _ rfl; have g10 := C9.frozen 10))
    have F := setAll_blkE [.int .i64 0, .int .i64 0, .string ⟨#[]⟩, .string ⟨#[]⟩, .int .i64 0, .string ⟨#[]⟩, .bool false, .int .i64 0, .int .i64 0, .int .i64 0, .slice none 0 0] 0 _ _ (C9)
    have r0 := F.cell 0 _ rfl
    have r1 := F.cell 1 _ rfl
    have r2 := F.cell 2 _ rfl
    have r3 := F.cell 3 _ rfl
    have r4 := F.cell 4 _ rfl
    have r5 := F.cell 5 _ rfl
    have r6 := F.cell 6 _ rfl
    have r7 := F.cell 7 _ rfl
    have r8 := F.cell 8 _ rfl
    have r9 := F.cell 9 _ rfl
    have r10 := F.cell 10 _ rfl
    change bodyPost _ _ _ _ _ (setAllE w2 w.heap.size 0 [.int .i64 0, .int .i64 0, .string ⟨#[]⟩, .string ⟨#[]⟩, .int .i64 0, .string ⟨#[]⟩, .bool false, .int .i64 0, .int .i64 0, .int .i64 0, .slice none 0 0])
    refine bodyPost_ret (v := .tuple #[.agg #[.int .i64 0, .int .i64 0, .string ⟨#[]⟩, .string ⟨#[]⟩, .int .i64 0, .string ⟨#[]⟩, .bool false, .int .i64 0, .int .i64 0, .int .i64 0, .slice none 0 0], .int .i64 (i : Nat)]) (by simp [results, Tryz.results105, go_sem, r0, r1, r2, r3, r4, r5, r6, r7, r8, r9, r10]) rfl ?_
    have hbF := setAll_belowE (Nat.le_refl w.heap.size) [.int .i64 0, .int .i64 0, .string ⟨#[]⟩, .string ⟨#[]⟩, .int .i64 0, .string ⟨#[]⟩, .bool false, .int .i64 0, .int .i64 0, .int .i64 0, .slice none 0 0] 0 _ (HB2.out.trans (hb2.mono HB2.out.size))
    exact ⟨rfl, HE.out.later hbF, GB.of_below hbF⟩
end

section
open Go.RowKit
set_option linter.unusedVariables false
set_option linter.unusedSimpArgs false
theorem run_append_own2 {P : Program} (w : World) (base : Nat) (t ty e : TypeId) (i : TypeInfo) (z : Value) (size bytes : Nat) (ht : P.underlying t = some (.slice e)) (hi : P.info? e = some i) (hz : i.zero = some z)
    (hsize : i.size = size) (hby : i.bytes = bytes) (hzs : z.cells.size = size) (hsz : 0 < size)
    (v : Value) (n : Nat) (xs : List Value) (hown : w.ownsRow base e size v n xs)
    (a : Addr) (m c : Nat) (news : List Value) (hl : news.length = m * size) (hnews : ∀ j u, news[j]? = some u → w.cell? (a.add j) = some u) (h1 : ∀ u ∈ news, u.oneCell' = true)
    (h63 : n + m ≤ maxLen) (hbytes : (n + m) * bytes ≤ 140737488355328) (hbase : base ≤ w.heap.size) :
    ∃ v' w', (Builtin.append_ #[t, t] ty #[v, .slice (some a) m c]).run P w = .ok v' w' ∧ w'.ownsRow base e size v' (n + m) (xs ++ news) ∧ w.grownBy w' v.ownBlock ∧
      (v'.ownBlock = v.ownBlock ∨ v'.ownBlock = some w.heap.size) := by
  obtain ⟨v', w', hr, h2, h3, h4⟩ := run_append_own (P := P) w base t ty e i z size bytes ht hi hz hsize hby hzs hsz v n xs hown a m c news hl hnews h1 h63 hbytes hbase
  refine ⟨v', w', hr, h2, h3, ?_⟩
  have hsmall : n + m ≤ 9223372036854775807 := by simp only [maxLen] at h63; omega
  subst hsize
  subst hby
  rcases hown.2 with ⟨rfl, rfl⟩ | ⟨g, cap, cur, rfl, hbg, hg, hnc, hcm, hcs, htake⟩
  · by_cases hm : m = 0
    · exact .inl (by rw [h4.2 ⟨rfl, hm⟩])
    · have hr2 := run_append_nil (P := P) w t ty e i z ht hi hz a m c news hl hnews (by omega) (by omega) (by have hb := hbytes; simp only [Nat.zero_add] at hb; omega)
      rw [hr2] at hr
      cases hr
      exact .inr rfl
  · by_cases hroom : n + m ≤ cap
    · have hfit : n * i.size + news.length ≤ cur.size := by rw [hl, hcs, ← Nat.add_mul]; exact Nat.mul_le_mul_right _ hroom
      have hr2 := run_append_room (P := P) w t ty e i ht hi g n cap cur hg a m c news hl hnews h1 hroom hfit
      rw [hr2] at hr
      cases hr
      exact .inl rfl
    · have holds : ∀ j u, xs[j]? = some u → w.cell? ((⟨g, 0, none⟩ : Addr).add j) = some u := hown.cells (g := g) rfl
      have hr2 := run_append_grow (P := P) w t ty e i z ht hi hz ⟨g, 0, none⟩ n cap xs hown.1 holds a m c news hl hnews (by omega) (by omega) (growslice_fits (by omega) hbytes)
      rw [hr2] at hr
      cases hr
      exact .inr rfl
theorem wpList_append_row2 {P : Program} {w : World} {ops : Array Oper} {rest : List Oper} {o : Oper} {a : Act} {Q : Exit → Act → World → Prop} (hgd : o.guard = none) (s x : Operand) (t : TypeId)
    (ho : o.op = .call { callee := .builtin .append, args := #[s, x], argTypes := #[t, t] })
    (base : Nat) (e : TypeId) (i : TypeInfo) (z : Value) (sz bytes : Nat) (ht : P.underlying t = some (.slice e)) (hi : P.info? e = some i) (hz : i.zero = some z) (hzs : z.cells.size = sz) (hsz : 0 < sz)
    (hsize : i.size = sz) (hby : i.bytes = bytes)
    (v : Value) (n : Nat) (acc : List Value) (hs : a.eval s = v) (hown : w.ownsRow base e sz v n acc)
    (ad : Addr) (c : Nat) (vs : List Value) (hm : vs.length = 1 * sz) (hx : a.eval x = .slice (some ad) 1 c) (hone : ∀ u ∈ vs, u.oneCell' = true) (hr : ∀ j u, vs[j]? = some u → w.cell? (ad.add j) = some u)
    (h63 : n + 1 ≤ maxLen) (hbytes : (n + 1) * bytes ≤ 140737488355328) (hbase : base ≤ w.heap.size)
    (h : ∀ v' w', w'.ownsRow base e sz v' (n + 1) (acc ++ vs) → w.grownBy w' v.ownBlock → (v'.ownBlock = v.ownBlock ∨ v'.ownBlock = some w.heap.size) → wpList P ops Q rest (a.put o.dst v') w') : wpList P ops Q (o :: rest) a w := by
  obtain ⟨v', w', hrun, r1, r2, r3⟩ := run_append_own2 (P := P) w base t o.type e i z sz bytes ht hi hz hsize hby hzs hsz v n acc hown ad 1 c vs hm hr hone h63 hbytes hbase
  refine wpList_plain hgd fun K hK => ?_
  unfold Oper.wp
  simp [execOp, ho, resolve, invoke, builtin, hs, hx, hrun, Result.andThen]
  exact hK _ _ (h v' w' r1 r2 r3)
def okR (w : World) (base : Nat) (v : Value) (b : Nat) : Prop := base ≤ b ∧ b < w.heap.size ∧ v.ownBlock ≠ some b
def okN (base : Nat) (w : World) (b : Nat) : Prop := base ≤ b ∧ b < w.heap.size
def Moves {α : Type} (R : (Nat → Prop) → World → Option Addr → Nat → Nat → α → Prop) : Prop := ∀ ok ok' w w' a n c x, (∀ b, ok b → ok' b ∧ w'.heap[b]? = w.heap[b]?) → R ok w a n c x → R ok' w' a n c x
def RowG {α : Type} (T : TypeId) (sz : Nat) (cel : α → Option Addr → Nat → Nat → List Value) (R : (Nat → Prop) → World → Option Addr → Nat → Nat → α → Prop) (w : World) (base : Nat) (v : Value) (out : List α) : Prop :=
  ∃ ys : List (α × Option Addr × Nat × Nat), out = ys.map (·.1) ∧ w.ownsRow base T sz v out.length (ys.flatMap fun y => cel y.1 y.2.1 y.2.2.1 y.2.2.2) ∧ ∀ y ∈ ys, R (okR w base v) w y.2.1 y.2.2.1 y.2.2.2 y.1
variable {α : Type} {T : TypeId} {sz : Nat} {cel : α → Option Addr → Nat → Nat → List Value} {R : (Nat → Prop) → World → Option Addr → Nat → Nat → α → Prop}
theorem RowG.nil {w : World} {base : Nat} {v : Value} (h : w.ownsRow base T sz v 0 []) : RowG T sz cel R w base v [] := ⟨[], rfl, by simpa using h, by simp⟩
theorem owns_keep {w w' : World} {base p n : Nat} {v : Value} {xs : List Value} (hp : p < base) (hg : GB w w' p) (h : w.ownsRow base T sz v n xs) : w'.ownsRow base T sz v n xs := by
  obtain ⟨h1, h2 | ⟨g, cap, cur, hv, hb, hc, r⟩⟩ := h
  · exact ⟨h1, .inl h2⟩
  · have hl : g < w.heap.size := (Array.getElem?_eq_some_iff.1 hc).1
    exact ⟨h1, .inr ⟨g, cap, cur, hv, hb, (hg.block g hl (fun e => by have := Option.some.inj e; omega)).trans hc, r⟩⟩
theorem RowG.keep (hM : Moves R) {w w' : World} {base p : Nat} {v : Value} {out : List α} (hp : p < base) (hg : GB w w' p) (h : RowG T sz cel R w base v out) : RowG T sz cel R w' base v out := by
  obtain ⟨ys, h1, h2, h3⟩ := h
  exact ⟨ys, h1, owns_keep hp hg h2, fun y hy => hM _ _ _ _ _ _ _ _ (fun b hb => ⟨⟨hb.1, Nat.lt_of_lt_of_le hb.2.1 hg.size, hb.2.2⟩, hg.block b hb.2.1 (fun e => by have := Option.some.inj e; have := hb.1; omega)⟩) (h3 y hy)⟩
theorem RowG.snoc (hM : Moves R) {w w' : World} {base : Nat} {v v' : Value} {out : List α} {x : α} {a : Option Addr} {n c : Nat} {ys : List (α × Option Addr × Nat × Nat)} (h1 : out = ys.map (·.1))
    (h3 : ∀ y ∈ ys, R (okR w base v) w y.2.1 y.2.2.1 y.2.2.2 y.1) (hx : R (okR w base v) w a n c x)
    (ho : w'.ownsRow base T sz v' (out.length + 1) ((ys.flatMap fun y => cel y.1 y.2.1 y.2.2.1 y.2.2.2) ++ cel x a n c)) (hg : w.grownBy w' v.ownBlock) (hv : v'.ownBlock = v.ownBlock ∨ v'.ownBlock = some w.heap.size) :
    RowG T sz cel R w' base v' (out ++ [x]) := by
  have hok : ∀ b, okR w base v b → okR w' base v' b ∧ w'.heap[b]? = w.heap[b]? := fun b hb => by
    refine ⟨⟨hb.1, Nat.lt_of_lt_of_le hb.2.1 hg.size, ?_⟩, hg.block b hb.2.1 (fun e => hb.2.2 e.symm)⟩
    rcases hv with hv | hv
    · rw [hv]; exact hb.2.2
    · rw [hv]; intro e; have := Option.some.inj e; have := hb.2.1; omega
  refine ⟨ys ++ [(x, a, n, c)], by simp [h1], by simpa using ho, fun y hy => ?_⟩
  rcases List.mem_append.1 hy with hy | hy
  · exact hM _ _ _ _ _ _ _ _ hok (h3 y hy)
  · obtain rfl := List.mem_singleton.1 hy
    exact hM _ _ _ _ _ _ _ _ hok hx
theorem flatG_get (hL : ∀ x a n c, (cel x a n c).length = sz) : ∀ (ys : List (α × Option Addr × Nat × Nat)) (i f : Nat) (y : α × Option Addr × Nat × Nat), ys[i]? = some y → f < sz → (ys.flatMap fun y => cel y.1 y.2.1 y.2.2.1 y.2.2.2)[i * sz + f]? = (cel y.1 y.2.1 y.2.2.1 y.2.2.2)[f]?
  | [], _, _, _, h, _ => by simp at h
  | y0 :: ys, 0, f, y, h, hf => by
    simp at h
    subst h
    rw [List.flatMap_cons, List.getElem?_append_left (by rw [hL]; omega)]
    simp
  | y0 :: ys, i + 1, f, y, h, hf => by
    rw [List.flatMap_cons, List.getElem?_append_right (by rw [hL]; rw [Nat.succ_mul]; omega), hL]
    rw [show (i + 1) * sz + f - sz = i * sz + f from by rw [Nat.succ_mul]; omega]
    exact flatG_get hL ys i f y (by simpa using h) hf
theorem RowG.rd (hM : Moves R) (hL : ∀ x a n c, (cel x a n c).length = sz) {w : World} {base : Nat} {v : Value} {out : List α} (h : RowG T sz cel R w base v out) (hn : out.length ≤ 100000000) :
    ∃ a c, v = .slice a out.length c ∧ RsOf (okN base w) sz (fun b o x => ∃ a n c, (∀ f u, (cel x a n c)[f]? = some u → w.cell? ⟨b, o + f, none⟩ = some u) ∧ R (okN base w) w a n c x) a out.length c out := by
  obtain ⟨ys, h1, ⟨h2, ⟨hv, h0⟩ | ⟨g, cap, cur, hv, hb, hc, hnc, hcm, hcs, htk⟩⟩, h3⟩ := h
  · refine ⟨none, 0, by rw [hv, h0], rfl, by omega, ⟨by unfold maxLen; omega, by omega⟩, .inl (List.length_eq_zero_iff.1 h0)⟩
  · refine ⟨_, cap, hv, rfl, hnc, ⟨hcm, by omega⟩, ?_⟩
    have hB : Blk w g cur.toList T := by unfold Blk; simpa using hc
    refine .inr ⟨g, 0, rfl, ⟨hb, hB.lt⟩, fun i x hx => ?_⟩
    subst h1
    rw [List.getElem?_map] at hx
    obtain ⟨y, hy, rfl⟩ := Option.map_eq_some_iff.1 hx
    refine ⟨y.2.1, y.2.2.1, y.2.2.2, fun f u hu => ?_, hM _ _ _ _ _ _ _ _ (fun b hb => ⟨⟨hb.1, hb.2.1⟩, rfl⟩) (h3 y (List.mem_of_getElem? hy))⟩
    have hf : f < sz := by have := (List.getElem?_eq_some_iff.1 hu).1; rwa [hL] at this
    have hg := flatG_get (cel := cel) hL ys i f y hy hf
    rw [hu, ← htk, List.getElem?_take] at hg
    split at hg
    · rw [Nat.zero_add]; exact hB.cell _ _ hg
    · cases hg
end

section
open Go.RowKit
set_option linter.unusedVariables false
set_option linter.unusedSimpArgs false
abbrev Sm (d : Nat) := Flat × Lx d
def emptyL : (d : Nat) → Lx d
  | 0 => ()
  | _ + 1 => ([] : List (List (Int × List (Flat × Lx _))))
theorem emptyL_rd {ok : Nat → Prop} {w : World} : ∀ (d : Nat), RdL ok d w none 0 0 (emptyL d)
  | 0 => ⟨rfl, by unfold maxLen; omega⟩
  | d + 1 => by
    show RsOf ok 1 (ComplexAt ok (RdL ok d w) w) none 0 0 ([] : List (List (Int × List (Flat × Lx d))))
    exact ⟨rfl, Nat.le_refl _, ⟨by unfold maxLen; omega, by omega⟩, .inl rfl⟩
def celS {d : Nat} (x : Sm d) (a : Option Addr) (n c : Nat) : List Value :=
  [.int .i64 x.1.kind, .int .i64 x.1.ns, .string x.1.pre, .string x.1.name, .int .i64 x.1.op, .string x.1.text, .bool x.1.fold, .int .i64 x.1.mark, .int .i64 x.1.a, .int .i64 x.1.b, .slice a n c]
theorem celS_len {d : Nat} (x : Sm d) (a : Option Addr) (n c : Nat) : (celS x a n c).length = 11 := rfl
theorem celS_one {d : Nat} (x : Sm d) (a : Option Addr) (n c : Nat) : ∀ u ∈ celS x a n c, u.oneCell' = true := by
  intro u hu
  simp only [celS, List.mem_cons, List.not_mem_nil, or_false] at hu
  rcases hu with rfl | rfl | rfl | rfl | rfl | rfl | rfl | rfl | rfl | rfl | rfl <;> rfl
def RS (d : Nat) (ok : Nat → Prop) (w : World) (a : Option Addr) (n c : Nat) (x : Sm d) : Prop := FlatOk x.1 ∧ RdL ok d w a n c x.2
theorem RS_moves (d : Nat) : Moves (RS d) := fun ok ok' w w' a n c x ho h => ⟨h.1, RdL.move ho h.2⟩
theorem RS.simple {d : Nat} {ok : Nat → Prop} {w : World} {b o : Nat} {x : Sm d} (h : ∃ a n c, (∀ f u, (celS x a n c)[f]? = some u → w.cell? ⟨b, o + f, none⟩ = some u) ∧ RS d ok w a n c x) : SimpleAt (RdL ok d w) w b o x := by
  obtain ⟨a, n, c, h1, h2, h3⟩ := h
  exact ⟨⟨h1 0 _ rfl, h1 1 _ rfl, h1 2 _ rfl, h1 3 _ rfl, h1 4 _ rfl, h1 5 _ rfl, h1 6 _ rfl, h1 7 _ rfl, h1 8 _ rfl, h1 9 _ rfl⟩, a, n, c, h1 10 _ rfl, h3, h2⟩
def lenV (v : Value) : Nat := match v with | .slice _ n _ => n | _ => 0
theorem own_lenV {w : World} {base n sz : Nat} {T : TypeId} {v : Value} {xs : List Value} (h : w.ownsRow base T sz v n xs) : lenV v = n := by
  obtain ⟨_, ⟨rfl, rfl⟩ | ⟨g, cap, cur, rfl, _⟩⟩ := h
  · rfl
  · rfl
theorem RowG.lenV {α : Type} {T : TypeId} {sz : Nat} {cel : α → Option Addr → Nat → Nat → List Value} {R : (Nat → Prop) → World → Option Addr → Nat → Nat → α → Prop} {w : World} {base : Nat} {v : Value} {out : List α} (h : RowG T sz cel R w base v out) : Go.Proofs.YtcfhggdiccilaaaGreat.lenV v = out.length := by
  obtain ⟨ys, _, h2, _⟩ := h
  exact own_lenV h2
def ESP {d : Nat} (p : Nat) (E : Ey) (ts : List Tk) (ps : List ByteArray) (r : Sm d × Nat × Es) (w : World) (e : Ending) (w' : World) : Prop :=
  ∃ a n c, e = .returned (.tuple #[sval r.1.1 a n c, .int .i64 r.2.1]) ∧ RS d (okN w.heap.size w') w' a n c r.1 ∧ EyeAt w' p E ts ps r.2.2 ∧ GB w w' p
def SimpleC (d p : Nat) (E : Ey) (ts : List Tk) (ps : List ByteArray) (outer : Bool) (deep : Int) (S : Nat → Es → List (Sm d) → Option (Sm d × Nat × Es)) : Prop :=
  ∀ (w : World) (st : Es) (i : Nat) (ahead : List (Sm d)) (va : Option Addr) (vc : Nat), EyeAt w p E ts ps st → i ≤ 3000000 → RsOf (fun b => b < w.heap.size ∧ b ≠ p) 11 (SimpleAt (RdL (fun b => b < w.heap.size ∧ b ≠ p) d w) w) va ahead.length vc ahead →
    ∀ r, S i st ahead = some r → Calls Tryz.prog 105 #[.pointer (some ⟨p, 0, none⟩), .int .i64 i, .bool outer, .int .i64 deep, .slice va ahead.length vc] w (ESP p E ts ps r w)
instance (f : Flat) : Decidable (FlatOk f) := by unfold FlatOk; infer_instance
def compEnd (ts : List Tk) (st : Es) (n k : Nat) : Es := if n = 0 then eFail ts st 10 k else st
def compGo {d : Nat} (S : Nat → Es → List (Sm d) → Option (Sm d × Nat × Es)) (ts : List Tk) : Nat → Nat → Es → List (Sm d) → Option (List (Sm d) × Nat × Bool × Es)
  | 0, _, _, _ => none
  | f + 1, k, st, out =>
    if st.err = 0 then
      match S k st out with
      | none => none
      | some (x, to, st') =>
        if to = k then some (out, k, false, compEnd ts st' out.length k)
        else if to ≤ 3000000 then
          if x.1.kind = 13 then some (out ++ [x], to, true, st') else compGo S ts f to st' (out ++ [x])
        else none
    else some (out, k, false, compEnd ts st out.length k)
def ECP {d : Nat} (p : Nat) (E : Ey) (ts : List Tk) (ps : List ByteArray) (r : List (Sm d) × Nat × Bool × Es) (w : World) (e : Ending) (w' : World) : Prop :=
  ∃ a c, e = .returned (.tuple #[.slice a r.1.length c, .int .i64 r.2.1, .bool r.2.2.1]) ∧ RsOf (okN w.heap.size w') 11 (SimpleAt (RdL (okN w.heap.size w') d w') w') a r.1.length c r.1 ∧ EyeAt w' p E ts ps r.2.2.2 ∧ GB w w' p
theorem ePlaced_shape (ts : List Tk) (ps : List ByteArray) (st : Es) (i : Nat) (attr : Bool) : ∃ ns pre k st', ePlaced ts ps st i attr = (placeF ns pre, k, st') ∧ k ≤ i + 2 := by
  have hle := ePrefix_le ts i attr
  unfold ePlaced
  dsimp only
  split
  · exact ⟨_, _, _, _, rfl, by omega⟩
  · split
    · exact ⟨_, _, _, _, rfl, hle⟩
    · split
      · exact ⟨_, _, _, _, rfl, hle⟩
      · exact ⟨_, _, _, _, rfl, hle⟩
def eCompound {d : Nat} (S : Nat → Es → List (Sm d) → Option (Sm d × Nat × Es)) (ts : List Tk) (ps : List ByteArray) (st : Es) (i : Nat) : Option (List (Sm d) × Nat × Bool × Es) :=
  let q := ePlaced ts ps st i false
  if eName ts q.2.1 then
    let x : Flat := { q.1 with kind := 1, name := strOfNums (eTok ts q.2.1).text }
    if FlatOk x then compGo S ts (ts.length + 10) (q.2.1 + 1) q.2.2 [(x, emptyL d)] else none
  else if eSign ts q.2.1 ⟨#[42]⟩ then
    let x : Flat := { q.1 with kind := 2 }
    if FlatOk x then compGo S ts (ts.length + 10) (q.2.1 + 1) q.2.2 [(x, emptyL d)] else none
  else compGo S ts (ts.length + 10) q.2.1 q.2.2 []
end
end Go.Proofs.YtcfhggdiccilaaaGreat
