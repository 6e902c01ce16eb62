/- Several texts of mine in one. -/
import Derived.Test.YtdopmkiogmejaaaGreatDoorR4
import Derived.Test.YtdopmkiogmejaaaGreatDoorLw
namespace Go.Proofs.YtdopmkiogmejaaaGreatDoor
section
open Go.RowKit

def zeroF (c : Int) : Int := if c = 0 then 65533 else c
theorem charOf_clean (c : Int) : charOf (zeroF c) = charOf (cleanF c) := by
  unfold zeroF cleanF
  by_cases h : c = 0
  · rw [if_pos h, if_pos h]
  · rw [if_neg h, if_neg h]
    unfold charOf
    by_cases hr : rightB c = true
    · rw [if_pos hr, if_pos hr]
    · rw [if_neg hr, if_pos (by decide)]
theorem bytesF_zero (zs : List Int) : textF (zs.map zeroF) = bytesF zs := by
  unfold bytesF textF
  rw [List.flatMap_map, List.flatMap_map]
  congr 1
  funext c
  rw [charOf_clean]
theorem map_snoc (f : Int → Int) (zs : List Int) (k : Nat) (h : k < zs.length) : (zs.take (k + 1)).map f = (zs.take k).map f ++ [f (zs[k]?.getD 0)] := by
  rw [List.take_add_one, List.getElem?_eq_getElem h, List.map_append]; rfl

set_option maxRecDepth 100000 in
set_option maxHeartbeats 2000000 in
theorem rtext_some (b off len cap : Nat) (zs : List Int) (w : World) (hlen : zs.length = len) (h1 : 1 ≤ len) (hl : len ≤ cap) (hcap : cap ≤ maxLen) (hat : At w .i64 b off zs) (hsm : len ≤ 100000) :
    Calls Tryz.prog 82 #[.slice (some ⟨b, off, none⟩) len cap] w (Told (.string (strOfNums (bytesF zs))) w) := by
  obtain ⟨i0, hi, hz0, hz1, hz2⟩ := info_parts Tryz.info3
  have hcap' : cap ≤ 9223372036854775807 := hcap
  have H0 := Lib.hid hlen; clear hlen hcap
  have own0 := World.ownsRow_made (base := w.heap.size) (e := 3) (size := 1) w #[] 0 (Nat.le_refl _) (by simp [maxLen]) (by simp)
  go_enter Tryz.func82, Tryz.ntmps82
  go_wp2
  go_loopw [3, 4] (fun v i wr => ∃ k : Nat, k ≤ len ∧ i = .int .i64 k ∧ wr.ownsRow w.heap.size 3 1 v k (((zs.take k).map zeroF).map (Value.int .i64)) ∧ Below w.heap.size w wr)
    (fun _ i _ => len - (intOf i).toNat)
  case atStart => exact ⟨0, by omega, rfl, own0, (Below.refl _ w).alloc (Nat.le_refl _) _⟩
  case round =>
    obtain ⟨k, hk, rfl, hown, hbl⟩ := hrel
    by_cases hlt : k < len
    · have hkz : k < zs.length := by rw [H0.out]; exact hlt
      have HT := Lib.hid (map_snoc zeroF zs k hkz)
      have hll : ((zs.take k).map zeroF).length = k := by rw [List.length_map, List.length_take]; omega
      have hc := (hat.later hbl hat.1).2 k hkz
      have hsz := hbl.size
      clear hkz
      generalize zs[k]?.getD 0 = c at hc HT
      generalize (zs.take k).map zeroF = acc at *
      have HLL := Lib.hid hll
      by_cases h0 : c = 0
      · subst h0
        have HT2 : Hid ((zs.take (k + 1)).map zeroF = acc ++ [65533]) := HT
        clear HT hll
        go_wp2_with (at_builtin; refine wpList_append_reads rfl _ _ 28 rfl w.heap.size 3 i0 .i64 8 Tryz.underlying28 hi hz0 hz1 hz2 _ k acc rfl (hown.alloc _) HLL.out (some ⟨wr.heap.size, 0, none⟩) 1 1 [65533] rfl rfl (reads_new wr .i64 _ 3 1 rfl (by unfold maxLen; omega)) (fun h => by cases h) (by unfold maxLen; omega) (by omega) (by simp <;> omega) ?_; intro v' w2 hown2 hgrow2)
        have hbl2 : Below w.heap.size w w2 := (hbl.alloc hsz _).grown hgrow2 (by simp <;> omega) (fun j hj => (hown.lt j hj).1)
        go_roundw
        case rel => exact ⟨k + 1, by omega, by go_num, by rw [HT2.out]; have := hown2; rw [List.length_append, HLL.out] at this; exact this, hbl2⟩
        case measure => simp [intOf]; omega
      · have n0 : (c == 0) = false := beq_eq_false_iff_ne.2 h0
        have HT2 : Hid ((zs.take (k + 1)).map zeroF = acc ++ [c]) := Lib.hid (by rw [HT.out]; unfold zeroF; rw [if_neg h0])
        clear HT hll h0
        go_wp2_with (at_builtin; refine wpList_append_reads rfl _ _ 28 rfl w.heap.size 3 i0 .i64 8 Tryz.underlying28 hi hz0 hz1 hz2 _ k acc rfl (hown.alloc _) HLL.out (some ⟨wr.heap.size, 0, none⟩) 1 1 [c] rfl rfl (reads_new wr .i64 _ 3 1 rfl (by unfold maxLen; omega)) (fun h => by cases h) (by unfold maxLen; omega) (by omega) (by simp <;> omega) ?_; intro v' w2 hown2 hgrow2)
        have hbl2 : Below w.heap.size w w2 := (hbl.alloc hsz _).grown hgrow2 (by simp <;> omega) (fun j hj => (hown.lt j hj).1)
        go_roundw
        case rel => exact ⟨k + 1, by omega, by go_num, by rw [HT2.out]; have := hown2; rw [List.length_append, HLL.out] at this; exact this, hbl2⟩
        case measure => simp [intOf]; omega
    · obtain rfl : k = len := by omega
      have he : (zs.take k).map zeroF = zs.map zeroF := by rw [List.take_of_length_le (by rw [H0.out]; omega)]
      rw [he] at hown
      have hlz : (zs.map zeroF).length = k := by rw [List.length_map, H0.out]
      have hB := Lib.hid (bytesF_zero zs)
      generalize zs.map zeroF = ys at *
      rw [← hlz] at hown
      obtain ⟨a, cp, hv, hrd⟩ := Reads.of_owns hown
      rw [hlz] at hv
      have hlz2 := Lib.hid hlz; clear hlz he hown
      subst hv
      go_wp2_with (go_at_call 117; refine (refText_any a cp k ys wr hlz2.out hrd (by omega)).mono ?_; rintro e w2 ⟨a2, c2, rfl, hr2, hb2, _, _⟩; have cv2 := conv3_any w2 22 5 9 Tryz.underlying22 Tryz.underlying5 Tryz.underlying9 a2 _ c2 (textF ys) rfl hr2)
      go_ret
      exact ⟨by rw [hB.out]; rfl, hbl.trans (hb2.mono hbl.size)⟩

theorem rtext_none (a : Option Addr) (cap : Nat) (w : World) : Calls Tryz.prog 82 #[.slice a 0 cap] w (Told (.string (strOfNums (bytesF []))) w) := by
  go_enter Tryz.func82, Tryz.ntmps82
  go_wp2
  refine wp_loop_rounds 1 ?_; rw [rounds_succ]
  go_wp2_with (go_at_call 117; refine (refText_any _ _ 0 [] _ rfl (reads_new w .i64 [] 3 0 rfl (by unfold maxLen; omega)) (by omega)).mono ?_; rintro e w2 ⟨a2, c2, rfl, hr2, hb2, _, _⟩; have cv2 := conv3_any w2 22 5 9 Tryz.underlying22 Tryz.underlying5 Tryz.underlying9 a2 _ c2 (textF []) rfl hr2)
  go_ret
  exact ⟨rfl, ((Below.refl _ w).alloc (Nat.le_refl _) _).trans (hb2.mono (by simp))⟩

/-- The text of characters. -/
theorem rtext_any (a : Option Addr) (cap n : Nat) (zs : List Int) (w : World) (hn : zs.length = n) (hr : Reads w .i64 a cap zs) (hsm : n ≤ 100000) :
    Calls Tryz.prog 82 #[.slice a n cap] w (Told (.string (strOfNums (bytesF zs))) w) := by
  obtain ⟨h1, h2, h3⟩ := hr
  by_cases h0 : zs = []
  · subst h0; subst hn; exact rtext_none _ cap w
  · obtain ⟨b, off, rfl, hat⟩ := h3.resolve_left h0
    exact rtext_some b off n cap zs w hn (by rw [← hn]; exact List.length_pos_iff.2 h0) (by omega) h2 hat hsm
end

section
open Go.RowKit

set_option maxRecDepth 100000 in
set_option maxHeartbeats 4000000 in
theorem rnames_any {a : Option Addr} {n cap : Nat} {l : List Int} {w : World} (i : Int) (k : Nat) (h : Src w a n cap l) (hi : i = (k : Int)) (hk : k ≤ n) :
    Calls Tryz.prog 79 #[.slice a n cap, .int .i64 i] w (Told (.tuple #[.string (strOfNums (bytesF (namesF l k).1)), .int .i64 ((namesF l k).2 : Nat)]) w) := by
  subst hi
  obtain ⟨i0, hi, hz0, hz1, hz2⟩ := info_parts Tryz.info3
  have hlen := h.len
  have hsm := h.small
  obtain ⟨hcap1, hcap2⟩ := h.cap
  have own0 := World.ownsRow_made (base := w.heap.size) (e := 3) (size := 1) w #[] 0 (Nat.le_refl _) (by simp [maxLen]) (by simp)
  generalize hR : namesF l k = R
  unfold namesF at hR
  rw [hlen] at hR
  have HR := Lib.hid hR; clear hR
  have HL := Lib.hid hlen; clear hlen
  have HP := Lib.hid h; clear h
  go_enter Tryz.func79, Tryz.ntmps79
  go_wp2_with fail
  go_loopw [1, 6] (fun at_ v wr => ∃ (f j : Nat) (acc : List Int), at_ = .int .i64 j ∧ wr.ownsRow w.heap.size 3 1 v acc.length (acc.map (Value.int .i64)) ∧ Hid (namesGo f l j acc = R) ∧ n < j + f ∧ j ≤ n ∧ acc.length ≤ j ∧ Below w.heap.size w wr)
    (fun at_ _ _ => n - (intOf at_).toNat)
  case atStart => exact ⟨n + 1, k, [], rfl, own0, HR, by omega, hk, by simp, (Below.refl _ w).alloc (Nat.le_refl _) _⟩
  case round =>
    obtain ⟨f, j, acc, rfl, hown, hG, hf, hj, hal, hbl⟩ := hrel
    have hS := Lib.hid (HP.out.later hbl)
    have hsz := hbl.size
    obtain ⟨f, rfl⟩ : ∃ g, f = g + 1 := ⟨f - 1, by omega⟩
    have f0 := rinnerAt (j : Int) j hS.out rfl
    rcases hnm : nmB l j with _ | _
    · have f1 := resc_any (j : Int) j hS.out rfl (by omega)
      rw [hnm] at f0
      rcases hes : escB l j with _ | _
      · have hE : R = (acc, j) := by rw [← hG.out, namesGo, if_neg (by rw [hnm]; decide), if_neg (by rw [hes]; decide)]
        rw [hes] at f1
        obtain ⟨a2, c2, hv, hrd⟩ := Reads.of_owns hown
        subst hv
        clear hG hnm hes hown
        go_wp2_with ((first | (go_at_call 80; with_reducible refine f0.mono ?_) | (go_at_call 81; with_reducible refine f1.mono ?_)); rintro e w1 ⟨rfl, hw1⟩; replace hw1 := hw1.symm; subst hw1)
        refine (rtext_any a2 c2 acc.length acc wr rfl hrd (by omega)).mono ?_
        rintro e w2 ⟨rfl, hb2⟩
        go_wp2
        go_ret2
        exact ⟨by rw [hE]; rfl, hbl.trans (hb2.mono hbl.size)⟩
      · have hjn : j < n := by have := lt_of_escB hes; rw [HL.out] at this; exact this
        obtain ⟨hv1, hv2⟩ := valueF_bd (l := l) (j := j) (by rw [HL.out]; exact hjn)
        rw [HL.out] at hv2
        have hG2 : Hid (namesGo f l (valueF l j).2 (acc ++ [(valueF l j).1]) = R) := Lib.hid (by rw [← hG.out]; conv => rhs; rw [namesGo, if_neg (by rw [hnm]; decide), if_pos hes])
        rw [hes] at f1
        have f2 := rvalue_any (j : Int) j hS.out rfl (by omega)
        clear hG hnm hes
        generalize (valueF l j).2 = j2 at *
        generalize (valueF l j).1 = c at *
        go_wp2_with ((first | (go_at_call 80; with_reducible refine f0.mono ?_) | (go_at_call 81; with_reducible refine f1.mono ?_)); rintro e w1 ⟨rfl, hw1⟩; replace hw1 := hw1.symm; subst hw1)
        refine f2.mono ?_
        rintro e w2 ⟨rfl, hb2⟩
        have hown2 := owns_later hown hb2
        have hbl2 := hbl.trans (hb2.mono hbl.size)
        have hsz2 := hbl2.size
        clear hown f0 f1 f2
        go_wp2_with (at_builtin; refine wpList_append_reads rfl _ _ 28 rfl w.heap.size 3 i0 .i64 8 Tryz.underlying28 hi hz0 hz1 hz2 _ acc.length acc rfl (hown2.alloc _) rfl (some ⟨w2.heap.size, 0, none⟩) 1 1 [c] rfl rfl (reads_new w2 .i64 _ 3 1 rfl (by unfold maxLen; omega)) (fun h => by cases h) (by unfold maxLen; omega) (by omega) (by simp <;> omega) ?_; intro v' w3 hown3 hgrow3)
        have hbl3 : Below w.heap.size w w3 := (hbl2.alloc hsz2 _).grown hgrow3 (by simp <;> omega) (fun j hj => (hown2.lt j hj).1)
        go_roundw
        case rel => exact ⟨f, j2, acc ++ [c], by go_num, hown3, hG2, by omega, by omega, by rw [List.length_append]; simp; omega, hbl3⟩
        case measure => simp [intOf]; omega
    · have hjn : j < n := by have := lt_of_nmB hnm; rw [HL.out] at this; exact this
      have hG2 : Hid (namesGo f l (j + 1) (acc ++ [chA l j]) = R) := Lib.hid (by rw [← hG.out]; conv => rhs; rw [namesGo, if_pos hnm])
      obtain ⟨b, off, rfl, hc⟩ := hS.out.cell j hjn
      rw [hnm] at f0
      clear hG hnm
      generalize chA l j = c at *
      go_wp2_with ((first | (go_at_call 80; (with_reducible refine f0.mono ?_); rintro e w1 ⟨rfl, hw1⟩; replace hw1 := hw1.symm; subst hw1) | (at_builtin; refine wpList_append_reads rfl _ _ 28 rfl w.heap.size 3 i0 .i64 8 Tryz.underlying28 hi hz0 hz1 hz2 _ acc.length acc rfl (hown.alloc _) rfl (some ⟨wr.heap.size, 0, none⟩) 1 1 [c] rfl rfl (reads_new wr .i64 _ 3 1 rfl (by unfold maxLen; omega)) (fun h => by cases h) (by unfold maxLen; omega) (by omega) (by simp <;> omega) ?_; intro v' w3 hown3 hgrow3)))
      have hbl3 : Below w.heap.size w w3 := (hbl.alloc hsz _).grown hgrow3 (by simp <;> omega) (fun j hj => (hown.lt j hj).1)
      go_roundw
      case rel => exact ⟨f, j + 1, acc ++ [c], by go_num, hown3, hG2, by omega, by omega, by rw [List.length_append]; simp; omega, hbl3⟩
      case measure => simp [intOf]; omega
end

section
open Go.RowKit

set_option maxRecDepth 100000 in
set_option maxHeartbeats 4000000 in
theorem rnumeric_any {b off n cap : Nat} {l : List Int} {w : World} (i : Int) (k : Nat) (h : Src w (some ⟨b, off, none⟩) n cap l) (hi : i = (k : Int)) (hk : k < n) :
    Calls Tryz.prog 75 #[.slice (some ⟨b, off, none⟩) n cap, .int .i64 i] w (Told (tkV (numericF l k)) w) := by
  subst hi
  have hlen := h.len
  have hsm := h.small
  obtain ⟨hcap1, hcap2⟩ := h.cap
  obtain ⟨hn1, hn2⟩ := numberF_le l k
  have hn2 := hn2 (by omega)
  rw [hlen] at hn2
  have hN : Hid (numericF l k = if nameAt l (numberF l k).1 then ⟨12, k, (namesF l (numberF l k).1).2, bytesF (namesF l (numberF l k).1).1, bytesF (sliceF l k (numberF l k).1), (numberF l k).2⟩
    else if isB l (numberF l k).1 37 then ⟨11, k, (numberF l k).1 + 1, [], bytesF (sliceF l k (numberF l k).1), (numberF l k).2⟩
    else ⟨10, k, (numberF l k).1, [], bytesF (sliceF l k (numberF l k).1), (numberF l k).2⟩) := Lib.hid rfl
  have HP := Lib.hid h

  have hS1 : ∀ o, Src (w.alloc o) (some ⟨b, off, none⟩) n cap l := fun o => h.later ((Below.refl _ w).alloc (Nat.le_refl _) _)
  have f0 := fun o => rdigits_any (k : Int) k (hS1 o) rfl (by omega)
  generalize numericF l k = T at *
  generalize (numberF l k).1 = m at *
  generalize (numberF l k).2 = wh at *
  clear h hlen
  go_enter Tryz.func75, Tryz.ntmps75
  go_wp2_with fail
  refine (f0 _).mono ?_
  rintro e w2 ⟨rfl, rfl⟩
  go_wp2_with fail
  generalize hW1 : w.alloc (.cells #[.int .i64 0, .int .i64 0, .int .i64 0, .string ⟨#[]⟩, .string ⟨#[]⟩, .bool false] 32) = w1 at *
  have hz1 : w1.heap.size = w.heap.size + 1 := by rw [← hW1]; simp
  have hb1 : Below w.heap.size w w1 := by rw [← hW1]; exact (Below.refl _ w).alloc (Nat.le_refl _) _
  have B1 : Blk w1 w.heap.size [.int .i64 0, .int .i64 0, .int .i64 0, .string ⟨#[]⟩, .string ⟨#[]⟩, .bool false] 32 := by rw [← hW1]; exact Blk.alloc _ _
  have hS := HP.out.later hb1
  obtain ⟨hrd, hrl⟩ := hS.part k m hn1 hn2
  clear hW1 f0 hS1
  refine (rtext_any _ _ (m - k) (sliceF l k m) w1 hrl hrd (by omega)).mono ?_
  rintro e w2 ⟨rfl, hb2⟩
  have hS2 := hS.later hb2
  have B2 := B1.later hb2 (by omega)
  have hz2 := hb2.size
  have hbw2 := hb1.trans (hb2.mono (by omega))
  generalize bytesF (sliceF l k m) = num at *
  clear hrd hrl B1 hb1 hb2 hS
  go_wp2_with fail
  have hS3 := hS2.later ((Below.refl _ w2).alloc (Nat.le_refl _) (.cells [.int .i64 10, .int .i64 k, .int .i64 m, .string ⟨#[]⟩, .string (strOfNums num), .bool wh].toArray 32))
  have B3 : Blk (w2.alloc (.cells [.int .i64 10, .int .i64 k, .int .i64 m, .string ⟨#[]⟩, .string (strOfNums num), .bool wh].toArray 32)) w2.heap.size [.int .i64 10, .int .i64 k, .int .i64 m, .string ⟨#[]⟩, .string (strOfNums num), .bool wh] 32 := Blk.alloc _ _
  have B3r := B2.alloc_old (.cells [.int .i64 10, .int .i64 k, .int .i64 m, .string ⟨#[]⟩, .string (strOfNums num), .bool wh].toArray 32)
  have hbw3 := hbw2.alloc hbw2.size (.cells [.int .i64 10, .int .i64 k, .int .i64 m, .string ⟨#[]⟩, .string (strOfNums num), .bool wh].toArray 32)
  generalize hW3 : w2.alloc (.cells [.int .i64 10, .int .i64 k, .int .i64 m, .string ⟨#[]⟩, .string (strOfNums num), .bool wh].toArray 32) = w3 at *
  have hz3 : w3.heap.size = w2.heap.size + 1 := by rw [← hW3]; simp
  have hpq : w.heap.size < w2.heap.size := by omega
  generalize w2.heap.size = p at *
  clear hW3 hS2 B2 hbw2
  have f1 := rnameAt_any (m : Int) m hS3 rfl (by omega)
  rcases hna : nameAt l m with _ | _
  · rw [hna] at f1
    have f2 := ris_any (m : Int) m 37 hS3 rfl (by decide)
    rcases hpc : isB l m 37 with _ | _
    · have hT : T = ⟨10, k, m, [], num, wh⟩ := by rw [hN.out, if_neg (by rw [hna]; decide), if_neg (by rw [hpc]; decide)]
      rw [hpc] at f2
      have c0 := B3.cell 0 _ rfl
      have c1 := B3.cell 1 _ rfl
      have c2 := B3.cell 2 _ rfl
      have c3 := B3.cell 3 _ rfl
      have c4 := B3.cell 4 _ rfl
      have c5 := B3.cell 5 _ rfl
      refine f1.mono ?_
      rintro e w4 ⟨rfl, hw4⟩; replace hw4 := hw4.symm; subst hw4
      go_wp2_with fail
      refine f2.mono ?_
      rintro e w4 ⟨rfl, hw4⟩; replace hw4 := hw4.symm; subst hw4
      have r0 := B3r.cell 0 _ rfl
      have r1 := B3r.cell 1 _ rfl
      have r2 := B3r.cell 2 _ rfl
      have r3 := B3r.cell 3 _ rfl
      have r4 := B3r.cell 4 _ rfl
      have r5 := B3r.cell 5 _ rfl
      have q0 := B3r.frozen 0
      have q1 := B3r.frozen 1
      have q2 := B3r.frozen 2
      have q3 := B3r.frozen 3
      have q4 := B3r.frozen 4
      have q5 := B3r.frozen 5
      go_wp2
      refine bodyPost_ret (v := .agg #[.int .i64 10, .int .i64 k, .int .i64 m, .string ⟨#[]⟩, .string (strOfNums num), .bool wh]) (by simp [results, Tryz.results75, go_sem, r0, r1, r2, r3, r4, r5]) rfl ⟨by rw [hT]; rfl, ?_⟩
      exact (((((hbw3.setCell (p := ⟨w.heap.size, 0, none⟩) (Nat.le_refl _) _).setCell (p := ⟨w.heap.size, 1, none⟩) (Nat.le_refl _) _).setCell (p := ⟨w.heap.size, 2, none⟩) (Nat.le_refl _) _).setCell (p := ⟨w.heap.size, 3, none⟩) (Nat.le_refl _) _).setCell (p := ⟨w.heap.size, 4, none⟩) (Nat.le_refl _) _).setCell (p := ⟨w.heap.size, 5, none⟩) (Nat.le_refl _) _
    · have hT : T = ⟨11, k, m + 1, [], num, wh⟩ := by rw [hN.out, if_neg (by rw [hna]; decide), if_pos hpc]
      rw [hpc] at f2
      have hne1 : ¬ w.heap.size = p := by omega
      have hne2 : ¬ p = w.heap.size := by omega
      have c0 := B3.cell 0 _ rfl
      have c1 := B3.cell 1 _ rfl
      have c2 := B3.cell 2 _ rfl
      have c3 := B3.cell 3 _ rfl
      have c4 := B3.cell 4 _ rfl
      have c5 := B3.cell 5 _ rfl
      have zc0 := B3.frozen 0
      have zc1 := B3.frozen 1
      have zc2 := B3.frozen 2
      have zc3 := B3.frozen 3
      have zc4 := B3.frozen 4
      have zc5 := B3.frozen 5
      have r0 := B3r.cell 0 _ rfl
      have r1 := B3r.cell 1 _ rfl
      have r2 := B3r.cell 2 _ rfl
      have r3 := B3r.cell 3 _ rfl
      have r4 := B3r.cell 4 _ rfl
      have r5 := B3r.cell 5 _ rfl
      have zr0 := B3r.frozen 0
      have zr1 := B3r.frozen 1
      have zr2 := B3r.frozen 2
      have zr3 := B3r.frozen 3
      have zr4 := B3r.frozen 4
      have zr5 := B3r.frozen 5
      refine f1.mono ?_
      rintro e w4 ⟨rfl, hw4⟩; replace hw4 := hw4.symm; subst hw4
      go_wp2_with fail
      refine f2.mono ?_
      rintro e w4 ⟨rfl, hw4⟩; replace hw4 := hw4.symm; subst hw4
      go_wp2
      refine bodyPost_ret (v := .agg #[.int .i64 11, .int .i64 k, .int .i64 (m + 1), .string ⟨#[]⟩, .string (strOfNums num), .bool wh]) (by simp [results, Tryz.results75, go_sem, r0, r1, r2, r3, r4, r5]) rfl ⟨by rw [hT]; rfl, ?_⟩
      exact (((((((hbw3.setCell (p := ⟨p, 0, none⟩) (by show w.heap.size ≤ p; omega) _).setCell (p := ⟨p, 2, none⟩) (by show w.heap.size ≤ p; omega) _).setCell (p := ⟨w.heap.size, 0, none⟩) (Nat.le_refl _) _).setCell (p := ⟨w.heap.size, 1, none⟩) (Nat.le_refl _) _).setCell (p := ⟨w.heap.size, 2, none⟩) (Nat.le_refl _) _).setCell (p := ⟨w.heap.size, 3, none⟩) (Nat.le_refl _) _).setCell (p := ⟨w.heap.size, 4, none⟩) (Nat.le_refl _) _).setCell (p := ⟨w.heap.size, 5, none⟩) (Nat.le_refl _) _
  · have hT : T = ⟨12, k, (namesF l m).2, bytesF (namesF l m).1, num, wh⟩ := by rw [hN.out, if_pos hna]
    rw [hna] at f1
    have hne1 : ¬ w.heap.size = p := by omega
    have hne2 : ¬ p = w.heap.size := by omega
    have c0 := B3.cell 0 _ rfl
    have c1 := B3.cell 1 _ rfl
    have c2 := B3.cell 2 _ rfl
    have c3 := B3.cell 3 _ rfl
    have c4 := B3.cell 4 _ rfl
    have c5 := B3.cell 5 _ rfl
    have zc0 := B3.frozen 0
    have zc1 := B3.frozen 1
    have zc2 := B3.frozen 2
    have zc3 := B3.frozen 3
    have zc4 := B3.frozen 4
    have zc5 := B3.frozen 5
    refine f1.mono ?_
    rintro e w4 ⟨rfl, hw4⟩; replace hw4 := hw4.symm; subst hw4
    have B4 := B3.setCell 0 (.int .i64 12)
    have B4r : Blk (w3.setCell ⟨p, 0, none⟩ (.int .i64 12)) w.heap.size [.int .i64 0, .int .i64 0, .int .i64 0, .string ⟨#[]⟩, .string ⟨#[]⟩, .bool false] 32 := B3r.kept (grown_setCell w3 p 0 _) (by simpa using hne2)
    have hbw4 := hbw3.setCell (p := ⟨p, 0, none⟩) (by show w.heap.size ≤ p; omega) (.int .i64 12)
    have hz4 : (w3.setCell ⟨p, 0, none⟩ (.int .i64 12)).heap.size = w3.heap.size := by simp
    go_wp2_with fail
    clear c0 c1 c2 c3 c4 c5 zc0 zc1 zc2 zc3 zc4 zc5 f1
    generalize w3.setCell ⟨p, 0, none⟩ (.int .i64 12) = w4 at *
    have hS4 := HP.out.later hbw4
    refine (rnames_any (m : Int) m hS4 rfl hn2).mono ?_
    rintro e w5 ⟨rfl, hb5⟩
    have B5 := B4.later hb5 (by omega)
    have B5r := B4r.later hb5 (by omega)
    have hbw5 := hbw4.trans (hb5.mono (by omega))
    clear B4 B4r hb5 hS4 hbw4 B3 B3r hS3 hbw3 hN
    generalize bytesF (namesF l m).1 = txt at *
    generalize (namesF l m).2 = m2 at *
    have c0 := B5.cell 0 _ rfl
    have c1 := B5.cell 1 _ rfl
    have c2 := B5.cell 2 _ rfl
    have c3 := B5.cell 3 _ rfl
    have c4 := B5.cell 4 _ rfl
    have c5 := B5.cell 5 _ rfl
    have zc0 := B5.frozen 0
    have zc1 := B5.frozen 1
    have zc2 := B5.frozen 2
    have zc3 := B5.frozen 3
    have zc4 := B5.frozen 4
    have zc5 := B5.frozen 5
    have r0 := B5r.cell 0 _ rfl
    have r1 := B5r.cell 1 _ rfl
    have r2 := B5r.cell 2 _ rfl
    have r3 := B5r.cell 3 _ rfl
    have r4 := B5r.cell 4 _ rfl
    have r5 := B5r.cell 5 _ rfl
    have zr0 := B5r.frozen 0
    have zr1 := B5r.frozen 1
    have zr2 := B5r.frozen 2
    have zr3 := B5r.frozen 3
    have zr4 := B5r.frozen 4
    have zr5 := B5r.frozen 5
    go_wp2
    refine bodyPost_ret (v := .agg #[.int .i64 12, .int .i64 k, .int .i64 m2, .string (strOfNums txt), .string (strOfNums num), .bool wh]) (by simp [results, Tryz.results75, go_sem, r0, r1, r2, r3, r4, r5]) rfl ⟨by rw [hT]; rfl, ?_⟩
    exact (((((((hbw5.setCell (p := ⟨p, 3, none⟩) (by show w.heap.size ≤ p; omega) _).setCell (p := ⟨p, 2, none⟩) (by show w.heap.size ≤ p; omega) _).setCell (p := ⟨w.heap.size, 0, none⟩) (Nat.le_refl _) _).setCell (p := ⟨w.heap.size, 1, none⟩) (Nat.le_refl _) _).setCell (p := ⟨w.heap.size, 2, none⟩) (Nat.le_refl _) _).setCell (p := ⟨w.heap.size, 3, none⟩) (Nat.le_refl _) _).setCell (p := ⟨w.heap.size, 4, none⟩) (Nat.le_refl _) _).setCell (p := ⟨w.heap.size, 5, none⟩) (Nat.le_refl _) _
end

section
open Go.RowKit

set_option maxRecDepth 100000 in
set_option maxHeartbeats 4000000 in
theorem rcalled_ident {b off n cap : Nat} {l : List Int} {w : World} (i : Int) (k : Nat) (h : Src w (some ⟨b, off, none⟩) n cap l) (hi : i = (k : Int)) (hk : k < n) (hid : isB l (namesF l k).2 40 = false) :
    Calls Tryz.prog 78 #[.slice (some ⟨b, off, none⟩) n cap, .int .i64 i] w (Told (tkV (calledF l k)) w) := by
  subst hi
  have hlen := h.len
  have hsm := h.small
  obtain ⟨hcap1, hcap2⟩ := h.cap
  obtain ⟨hn1, hn2⟩ := namesF_le l k
  have hn2 := hn2 (by omega)
  rw [hlen] at hn2
  have hN : Hid (calledF l k = ⟨1, k, (namesF l k).2, bytesF (namesF l k).1, [], false⟩) := Lib.hid (by unfold calledF; rw [hid]; rfl)
  have HP := Lib.hid h
  have hS1 : ∀ o, Src (w.alloc o) (some ⟨b, off, none⟩) n cap l := fun o => h.later ((Below.refl _ w).alloc (Nat.le_refl _) _)
  go_enter Tryz.func78, Tryz.ntmps78
  go_wp2_with fail
  generalize hW1 : w.alloc (.cells [.int .i64 0, .int .i64 0, .int .i64 0, .string ⟨#[]⟩, .string ⟨#[]⟩, .bool false].toArray 32) = w1 at *
  have hz1 : w1.heap.size = w.heap.size + 1 := by rw [← hW1]; simp
  have hb1 : Below w.heap.size w w1 := by rw [← hW1]; exact (Below.refl _ w).alloc (Nat.le_refl _) _
  have B1 : Blk w1 w.heap.size [.int .i64 0, .int .i64 0, .int .i64 0, .string ⟨#[]⟩, .string ⟨#[]⟩, .bool false] 32 := by rw [← hW1]; exact Blk.alloc _ _
  have hS := HP.out.later hb1
  clear hW1 hS1 h
  refine (rnames_any (k : Int) k hS rfl (by omega)).mono ?_
  rintro e w2 ⟨rfl, hb2⟩
  have hS2 := hS.later hb2
  have B2 := B1.later hb2 (by omega)
  have hbw2 := hb1.trans (hb2.mono (by omega))
  have f1 := ris_any ((namesF l k).2 : Int) (namesF l k).2 40 hS2 rfl (by decide)
  rw [hid] at f1
  clear hb1 hb2 B1 hS hid
  generalize calledF l k = T at *
  generalize bytesF (namesF l k).1 = txt at *
  generalize (namesF l k).2 = m at *
  have r0 := B2.cell 0 _ rfl
  have r1 := B2.cell 1 _ rfl
  have r2 := B2.cell 2 _ rfl
  have r3 := B2.cell 3 _ rfl
  have r4 := B2.cell 4 _ rfl
  have r5 := B2.cell 5 _ rfl
  have zr0 := B2.frozen 0
  have zr1 := B2.frozen 1
  have zr2 := B2.frozen 2
  have zr3 := B2.frozen 3
  have zr4 := B2.frozen 4
  have zr5 := B2.frozen 5
  go_wp2_with fail
  refine f1.mono ?_
  rintro e wq ⟨rfl, hwq⟩; replace hwq := hwq.symm; subst hwq
  go_wp2
  refine bodyPost_ret (v := .agg #[.int .i64 1, .int .i64 k, .int .i64 m, .string (strOfNums txt), .string ⟨#[]⟩, .bool false]) (by simp [results, Tryz.results78, go_sem, r0, r1, r2, r3, r4, r5]) rfl ⟨by rw [hN.out]; rfl, ?_⟩
  exact (((((hbw2.setCell (p := ⟨w.heap.size, 0, none⟩) (Nat.le_refl _) _).setCell (p := ⟨w.heap.size, 1, none⟩) (Nat.le_refl _) _).setCell (p := ⟨w.heap.size, 2, none⟩) (Nat.le_refl _) _).setCell (p := ⟨w.heap.size, 3, none⟩) (Nat.le_refl _) _).setCell (p := ⟨w.heap.size, 4, none⟩) (Nat.le_refl _) _).setCell (p := ⟨w.heap.size, 5, none⟩) (Nat.le_refl _) _
end

section
open Go.RowKit
set_option linter.unusedVariables false
set_option linter.unusedSimpArgs false

def zeroTkR : List Value := [.int .i64 0, .int .i64 0, .int .i64 0, .string ⟨#[]⟩, .string ⟨#[]⟩, .bool false]
theorem below_set6R {B p : Nat} {w wr : World} (h : Below B w wr) (hp : B ≤ p) (v0 v1 v2 v3 v4 v5 : Value) :
    Below B w ((((((wr.setCell ⟨p, 0, none⟩ v0).setCell ⟨p, 1, none⟩ v1).setCell ⟨p, 2, none⟩ v2).setCell ⟨p, 3, none⟩ v3).setCell ⟨p, 4, none⟩ v4).setCell ⟨p, 5, none⟩ v5) :=
  (((((h.setCell (p := ⟨p, 0, none⟩) hp _).setCell (p := ⟨p, 1, none⟩) hp _).setCell (p := ⟨p, 2, none⟩) hp _).setCell (p := ⟨p, 3, none⟩) hp _).setCell (p := ⟨p, 4, none⟩) hp _).setCell (p := ⟨p, 5, none⟩) hp _
theorem rsGo_fuel (l : List Int) (frm : Nat) : ∀ (f g i : Nat), l.length < i + f → l.length < i + g → restGo f l frm i = restGo g l frm i
  | f, g, i, hf, hg => by
    by_cases h1 : l.length ≤ i
    · have : ∀ f, restGo f l frm i = ⟨8, frm, l.length, [], [], false⟩ := fun f => by cases f with | zero => rfl | succ f => rw [restGo, if_pos h1]
      rw [this, this]
    · obtain ⟨f, rfl⟩ : ∃ f', f = f' + 1 := ⟨f - 1, by omega⟩
      obtain ⟨g, rfl⟩ : ∃ g', g = g' + 1 := ⟨g - 1, by omega⟩
      rw [restGo, restGo, if_neg h1, if_neg h1]
      by_cases h2 : isB l i 41 = true
      · rw [if_pos h2, if_pos h2]
      · rw [if_neg h2, if_neg h2]
        by_cases h3 : escB l i = true
        · rw [if_pos h3, if_pos h3]
          have := (valueF_bd (lt_of_escB h3)).1
          exact rsGo_fuel l frm f g _ (by omega) (by omega)
        · rw [if_neg h3, if_neg h3]
          exact rsGo_fuel l frm f g _ (by omega) (by omega)
theorem rsF_end {l : List Int} {i frm : Nat} (h : l.length ≤ i) : restF l frm i = ⟨8, frm, l.length, [], [], false⟩ := by unfold restF; rw [restGo, if_pos h]
theorem rsF_close {l : List Int} {i frm : Nat} (h : i < l.length) (h2 : isB l i 41 = true) : restF l frm i = ⟨8, frm, i + 1, [], [], false⟩ := by unfold restF; rw [restGo, if_neg (by omega), if_pos h2]
theorem rsF_esc {l : List Int} {i frm : Nat} (h2 : isB l i 41 = false) (h3 : escB l i = true) : restF l frm i = restF l frm (valueF l i).2 := by
  have h := lt_of_escB h3
  unfold restF
  rw [restGo, if_neg (by omega), if_neg (by rw [h2]; decide), if_pos h3]
  have := (valueF_bd h).1
  exact rsGo_fuel l frm _ _ _ (by omega) (by omega)
theorem rsF_other {l : List Int} {i frm : Nat} (h : i < l.length) (h2 : isB l i 41 = false) (h3 : escB l i = false) : restF l frm i = restF l frm (i + 1) := by
  unfold restF
  rw [restGo, if_neg (by omega), if_neg (by rw [h2]; decide), if_neg (by rw [h3]; decide)]
  exact rsGo_fuel l frm _ _ _ (by omega) (by omega)

set_option maxRecDepth 100000 in
set_option maxHeartbeats 4000000 in
theorem rrest_any {a : Option Addr} {n cap : Nat} {l : List Int} {w : World} (i fr : Int) (k frm : Nat) (h : Src w a n cap l) (hi : i = (k : Int)) (hf : fr = (frm : Int)) (hk : k ≤ n) :
    Calls Tryz.prog 144 #[.slice a n cap, .int .i64 fr, .int .i64 i] w (Told (tkV (restF l frm k)) w) := by
  subst hi
  subst hf
  have hsm := h.small
  have HL := Lib.hid h.len
  generalize hR : restF l frm k = R
  have HR := Lib.hid hR
  have HP := Lib.hid h
  clear h hR
  have HB0 := Lib.hid (Blk.alloc (w := w) zeroTkR 32)
  go_enter Tryz.func144, Tryz.ntmps144
  go_wp2_with fail
  go_loopw [2] (fun v wr => ∃ j : Nat, v = .int .i64 j ∧ j ≤ n ∧ Hid (restF l frm j = R) ∧ Hid (Blk wr w.heap.size zeroTkR 32) ∧ Below w.heap.size w wr) (fun v _ => n - (intOf v).toNat)
  case atStart => exact ⟨k, rfl, hk, HR, HB0, (Below.refl _ _).alloc (Nat.le_refl _) _⟩
  case round =>
    obtain ⟨j, rfl, hj, hG, hB, hbl⟩ := hrel
    have hS := Lib.hid (HP.out.later hbl)
    have HBL := Lib.hid hbl
    clear hbl
    by_cases hlt : j < n
    · have hlt' : (j : Int) < (n : Int) := by omega
      have f1 := resc_any (j : Int) j hS.out rfl (by omega)
      obtain ⟨b, off, rfl, hc⟩ := hS.out.cell j hlt
      have hq : (chA l j != 41) = !isB l j 41 := by unfold isB; rfl
      rcases h41 : isB l j 41 with _ | _
      · rw [h41] at hq
        rcases hes : escB l j with _ | _
        · have e := Lib.hid ((rsF_other (by rw [HL.out]; exact hlt) h41 hes).symm.trans hG.out)
          rw [hes] at f1
          clear hes h41 hG
          generalize chA l j = z at *
          go_wp2_with (go_at_call 81; (with_reducible refine f1.mono ?_); rintro e w' ⟨rfl, rfl⟩)
          go_roundw
          case rel => exact ⟨j + 1, by go_num, by omega, e, hB, HBL.out⟩
          case measure => simp [intOf]; omega
        · have e := Lib.hid ((rsF_esc h41 hes).symm.trans hG.out)
          have hbd := valueF_bd (l := l) (j := j) (by rw [HL.out]; exact hlt)
          rw [HL.out] at hbd
          have f2 := rvalue_any (j : Int) j hS.out rfl (by omega)
          rw [hes] at f1
          clear hes h41 hG
          generalize (valueF l j).2 = j2 at *
          generalize (valueF l j).1 = c at *
          generalize chA l j = z at *
          go_wp2_with (first
            | (go_at_call 81; (with_reducible refine f1.mono ?_); rintro e w1 ⟨rfl, hw1⟩; replace hw1 := hw1.symm; subst hw1)
            | (go_at_call 111; (with_reducible refine f2.mono ?_); rintro e w1 ⟨rfl, hb1⟩; have hB1 := hB.out.later hb1 hB.out.lt; have hbl1 := HBL.out.trans (hb1.mono HBL.out.size)))
          go_roundw
          case rel => exact ⟨j2, by go_num, by omega, e, Lib.hid hB1, hbl1⟩
          case measure => simp [intOf]; omega
      · have e := Lib.hid ((rsF_close (frm := frm) (by rw [HL.out]; exact hlt) h41).symm.trans hG.out)
        rw [h41] at hq
        have hj1 : ¬ ((j : Int) + 1 > (n : Int)) := by omega
        have r0 := hB.out.cell 0 _ rfl
        have r1 := hB.out.cell 1 _ rfl
        have r2 := hB.out.cell 2 _ rfl
        have r3 := hB.out.cell 3 _ rfl
        have r4 := hB.out.cell 4 _ rfl
        have r5 := hB.out.cell 5 _ rfl
        have q0 := hB.out.frozen 0
        have q1 := hB.out.frozen 1
        have q2 := hB.out.frozen 2
        have q3 := hB.out.frozen 3
        have q4 := hB.out.frozen 4
        have q5 := hB.out.frozen 5
        clear h41 hG f1
        generalize chA l j = z at *
        go_wp2
        refine bodyPost_ret (v := .agg #[.int .i64 8, .int .i64 frm, .int .i64 (j + 1 : Nat), .string ⟨#[]⟩, .string ⟨#[]⟩, .bool false]) (by simp [results, Tryz.results144, go_sem, r0, r1, r2, r3, r4, r5]) rfl ⟨by rw [← e.out]; rfl, ?_⟩
        exact below_set6R HBL.out (Nat.le_refl _) _ _ _ _ _ _
    · obtain rfl : j = n := by omega
      have hlt' : ¬ (j : Int) < (j : Int) := by omega
      have hgt' : ¬ ((j : Int) > (j : Int)) := by omega
      have e := Lib.hid ((rsF_end (frm := frm) (by rw [HL.out]; exact Nat.le_refl _)).symm.trans hG.out)
      have r0 := hB.out.cell 0 _ rfl
      have r1 := hB.out.cell 1 _ rfl
      have r2 := hB.out.cell 2 _ rfl
      have r3 := hB.out.cell 3 _ rfl
      have r4 := hB.out.cell 4 _ rfl
      have r5 := hB.out.cell 5 _ rfl
      have q0 := hB.out.frozen 0
      have q1 := hB.out.frozen 1
      have q2 := hB.out.frozen 2
      have q3 := hB.out.frozen 3
      have q4 := hB.out.frozen 4
      have q5 := hB.out.frozen 5
      clear hG hlt
      go_wp2
      refine bodyPost_ret (v := .agg #[.int .i64 8, .int .i64 frm, .int .i64 (j : Nat), .string ⟨#[]⟩, .string ⟨#[]⟩, .bool false]) (by simp [results, Tryz.results144, go_sem, r0, r1, r2, r3, r4, r5]) rfl ⟨by rw [← e.out, HL.out]; rfl, ?_⟩
      exact below_set6R HBL.out (Nat.le_refl _) _ _ _ _ _ _
end

section
open Go.RowKit

set_option maxRecDepth 100000 in
set_option maxHeartbeats 4000000 in
theorem rnext_end {a : Option Addr} {n cap : Nat} {l : List Int} {w : World} (i : Int) (k : Nat) (h : Src w a n cap l) (hi : i = (k : Int)) (hk : k ≤ n) (j : Nat) (hj : behindF l k = j) (hjn : n ≤ j) :
    Calls Tryz.prog 40 #[.slice a n cap, .int .i64 i] w (Told (tkV (nextF l k)) w) := by
  subst hi
  have hlen := h.len
  have hsm := h.small
  obtain ⟨hcap1, hcap2⟩ := h.cap
  have hkn : ¬ (n : Int) < (k : Int) := by omega
  have hN : Hid (nextF l k = ⟨0, n, n, [], [], false⟩) := Lib.hid (by
    unfold nextF tokAt
    rw [hj]
    rw [if_pos (by rw [hlen]; exact hjn), hlen])
  have HP := Lib.hid h
  have hS1 : ∀ o, Src (w.alloc o) a n cap l := fun o => h.later ((Below.refl _ w).alloc (Nat.le_refl _) _)
  generalize nextF l k = T at *
  go_enter Tryz.func40, Tryz.ntmps40
  go_wp2_with fail
  generalize hW1 : w.alloc (.cells [.int .i64 0, .int .i64 0, .int .i64 0, .string ⟨#[]⟩, .string ⟨#[]⟩, .bool false].toArray 32) = w1 at *
  have hz1 : w1.heap.size = w.heap.size + 1 := by rw [← hW1]; simp
  have hb1 : Below w.heap.size w w1 := by rw [← hW1]; exact (Below.refl _ w).alloc (Nat.le_refl _) _
  have B1 : Blk w1 w.heap.size [.int .i64 0, .int .i64 0, .int .i64 0, .string ⟨#[]⟩, .string ⟨#[]⟩, .bool false] 32 := by rw [← hW1]; exact Blk.alloc _ _
  have hS := HP.out.later hb1
  clear hW1 hS1 h
  have fb := rbehind_any (k : Int) k hS rfl hk
  rw [hj] at fb
  have hjn' : (n : Int) ≤ (j : Int) := by omega
  have r0 := B1.cell 0 _ rfl
  have r1 := B1.cell 1 _ rfl
  have r2 := B1.cell 2 _ rfl
  have r3 := B1.cell 3 _ rfl
  have r4 := B1.cell 4 _ rfl
  have r5 := B1.cell 5 _ rfl
  have zr0 := B1.frozen 0
  have zr1 := B1.frozen 1
  have zr2 := B1.frozen 2
  have zr3 := B1.frozen 3
  have zr4 := B1.frozen 4
  have zr5 := B1.frozen 5
  go_wp2_with ((first | (go_at_call 70; with_reducible refine fb.mono ?_)); rintro e wq ⟨rfl, hwq⟩; replace hwq := hwq.symm; subst hwq)
  refine bodyPost_ret (v := .agg #[.int .i64 0, .int .i64 n, .int .i64 n, .string ⟨#[]⟩, .string ⟨#[]⟩, .bool false]) (by simp [results, Tryz.results40, go_sem, r0, r1, r2, r3, r4, r5]) rfl ⟨by rw [hN.out]; rfl, ?_⟩
  exact (((((hb1.setCell (p := ⟨w.heap.size, 0, none⟩) (Nat.le_refl _) _).setCell (p := ⟨w.heap.size, 1, none⟩) (Nat.le_refl _) _).setCell (p := ⟨w.heap.size, 2, none⟩) (Nat.le_refl _) _).setCell (p := ⟨w.heap.size, 3, none⟩) (Nat.le_refl _) _).setCell (p := ⟨w.heap.size, 4, none⟩) (Nat.le_refl _) _).setCell (p := ⟨w.heap.size, 5, none⟩) (Nat.le_refl _) _

set_option maxRecDepth 100000 in
set_option maxHeartbeats 4000000 in
theorem rnext_num {b off n cap : Nat} {l : List Int} {w : World} (i : Int) (k : Nat) (h : Src w (some ⟨b, off, none⟩) n cap l) (hi : i = (k : Int)) (hk : k ≤ n) (j : Nat) (hj : behindF l k = j) (hjn : j < n) (hsp : spB l j = false) (hq1 : isB l j 34 = false) (hq2 : isB l j 39 = false) (hnu : numAt l j = true) :
    Calls Tryz.prog 40 #[.slice (some ⟨b, off, none⟩) n cap, .int .i64 i] w (Told (tkV (nextF l k)) w) := by
  subst hi
  have hlen := h.len
  have hsm := h.small
  obtain ⟨hcap1, hcap2⟩ := h.cap
  have hkn : ¬ (n : Int) < (k : Int) := by omega
  have hN : Hid (nextF l k = numericF l j) := Lib.hid (by
    unfold nextF tokAt
    rw [hj]
    rw [if_neg (by rw [hlen]; omega), if_neg (by rw [hsp]; decide), if_neg (by rw [hq1, hq2]; decide), if_pos hnu])
  have HP := Lib.hid h
  have hS1 : ∀ o, Src (w.alloc o) (some ⟨b, off, none⟩) n cap l := fun o => h.later ((Below.refl _ w).alloc (Nat.le_refl _) _)
  generalize nextF l k = T at *
  go_enter Tryz.func40, Tryz.ntmps40
  go_wp2_with fail
  generalize hW1 : w.alloc (.cells [.int .i64 0, .int .i64 0, .int .i64 0, .string ⟨#[]⟩, .string ⟨#[]⟩, .bool false].toArray 32) = w1 at *
  have hz1 : w1.heap.size = w.heap.size + 1 := by rw [← hW1]; simp
  have hb1 : Below w.heap.size w w1 := by rw [← hW1]; exact (Below.refl _ w).alloc (Nat.le_refl _) _
  have B1 : Blk w1 w.heap.size [.int .i64 0, .int .i64 0, .int .i64 0, .string ⟨#[]⟩, .string ⟨#[]⟩, .bool false] 32 := by rw [← hW1]; exact Blk.alloc _ _
  have hS := HP.out.later hb1
  clear hW1 hS1 h
  have fb := rbehind_any (k : Int) k hS rfl hk
  rw [hj] at fb
  have fn := rnumAt_any (j : Int) j hS rfl (by omega)
  obtain ⟨_, _, e0, hc⟩ := hS.cell j hjn
  cases e0
  have hch := chA_ch hS.pre j
  have hjn' : ¬ (n : Int) ≤ (j : Int) := by omega
  have fs := fun w => rspace_any (chA l j) w hch
  rw [show spaceB (chA l j) = false from hsp] at fs
  rw [hnu] at fn
  have q1 : (chA l j == 34) = false := hq1
  have q2 : (chA l j == 39) = false := hq2
  have r0 := B1.cell 0 _ rfl
  have r1 := B1.cell 1 _ rfl
  have r2 := B1.cell 2 _ rfl
  have r3 := B1.cell 3 _ rfl
  have r4 := B1.cell 4 _ rfl
  have r5 := B1.cell 5 _ rfl
  have zr0 := B1.frozen 0
  have zr1 := B1.frozen 1
  have zr2 := B1.frozen 2
  have zr3 := B1.frozen 3
  have zr4 := B1.frozen 4
  have zr5 := B1.frozen 5
  clear hsp hq1 hq2 hnu hj
  have fz := rnumeric_any (j : Int) j hS rfl hjn
  generalize numericF l j = U at *
  generalize chA l j = c at *
  go_wp2_with ((first | (go_at_call 70; with_reducible refine fb.mono ?_) | (go_at_call 71; with_reducible refine (fs _).mono ?_) | (go_at_call 74; with_reducible refine fn.mono ?_)); rintro e wq ⟨rfl, hwq⟩; replace hwq := hwq.symm; subst hwq)
  refine fz.mono ?_
  rintro e w2 ⟨rfl, hb2⟩
  have B2 := B1.later hb2 (by omega)
  have hbw2 := hb1.trans (hb2.mono (by omega))
  clear r0 r1 r2 r3 r4 r5 zr0 zr1 zr2 zr3 zr4 zr5 fs fb fn hS
  unfold tkV tkCells
  have r0 := B2.cell 0 _ rfl
  have r1 := B2.cell 1 _ rfl
  have r2 := B2.cell 2 _ rfl
  have r3 := B2.cell 3 _ rfl
  have r4 := B2.cell 4 _ rfl
  have r5 := B2.cell 5 _ rfl
  have zr0 := B2.frozen 0
  have zr1 := B2.frozen 1
  have zr2 := B2.frozen 2
  have zr3 := B2.frozen 3
  have zr4 := B2.frozen 4
  have zr5 := B2.frozen 5
  go_wp2
  refine bodyPost_ret (v := .agg #[.int .i64 U.kind, .int .i64 U.frm, .int .i64 U.to, .string (strOfNums U.text), .string (strOfNums U.num), .bool U.whole]) (by simp [results, Tryz.results40, go_sem, r0, r1, r2, r3, r4, r5]) rfl ⟨by rw [hN.out]; rfl, ?_⟩
  exact (((((hbw2.setCell (p := ⟨w.heap.size, 0, none⟩) (Nat.le_refl _) _).setCell (p := ⟨w.heap.size, 1, none⟩) (Nat.le_refl _) _).setCell (p := ⟨w.heap.size, 2, none⟩) (Nat.le_refl _) _).setCell (p := ⟨w.heap.size, 3, none⟩) (Nat.le_refl _) _).setCell (p := ⟨w.heap.size, 4, none⟩) (Nat.le_refl _) _).setCell (p := ⟨w.heap.size, 5, none⟩) (Nat.le_refl _) _
end

section
open Go.RowKit

set_option maxRecDepth 100000 in
set_option maxHeartbeats 4000000 in
theorem rnext_space {b off n cap : Nat} {l : List Int} {w : World} (i : Int) (k : Nat) (h : Src w (some ⟨b, off, none⟩) n cap l) (hi : i = (k : Int)) (hk : k ≤ n) (j : Nat) (hj : behindF l k = j) (hjn : j < n) (hsp : spB l j = true) :
    Calls Tryz.prog 40 #[.slice (some ⟨b, off, none⟩) n cap, .int .i64 i] w (Told (tkV (nextF l k)) w) := by
  subst hi
  have hlen := h.len
  have hsm := h.small
  obtain ⟨hcap1, hcap2⟩ := h.cap
  have hkn : ¬ (n : Int) < (k : Int) := by omega
  have hN : Hid (nextF l k = ⟨13, j, spacesF l j, [], [], false⟩) := Lib.hid (by
    unfold nextF tokAt
    rw [hj]
    rw [if_neg (by rw [hlen]; omega), if_pos hsp])
  have HP := Lib.hid h
  have hS1 : ∀ o, Src (w.alloc o) (some ⟨b, off, none⟩) n cap l := fun o => h.later ((Below.refl _ w).alloc (Nat.le_refl _) _)
  generalize nextF l k = T at *
  go_enter Tryz.func40, Tryz.ntmps40
  go_wp2_with fail
  generalize hW1 : w.alloc (.cells [.int .i64 0, .int .i64 0, .int .i64 0, .string ⟨#[]⟩, .string ⟨#[]⟩, .bool false].toArray 32) = w1 at *
  have hz1 : w1.heap.size = w.heap.size + 1 := by rw [← hW1]; simp
  have hb1 : Below w.heap.size w w1 := by rw [← hW1]; exact (Below.refl _ w).alloc (Nat.le_refl _) _
  have B1 : Blk w1 w.heap.size [.int .i64 0, .int .i64 0, .int .i64 0, .string ⟨#[]⟩, .string ⟨#[]⟩, .bool false] 32 := by rw [← hW1]; exact Blk.alloc _ _
  have hS := HP.out.later hb1
  clear hW1 hS1 h
  have fb := rbehind_any (k : Int) k hS rfl hk
  rw [hj] at fb
  obtain ⟨_, _, e0, hc⟩ := hS.cell j hjn
  cases e0
  have hch := chA_ch hS.pre j
  have hjn' : ¬ (n : Int) ≤ (j : Int) := by omega
  have fs := fun w => rspace_any (chA l j) w hch
  rw [show spaceB (chA l j) = true from hsp] at fs
  have r0 := B1.cell 0 _ rfl
  have r1 := B1.cell 1 _ rfl
  have r2 := B1.cell 2 _ rfl
  have r3 := B1.cell 3 _ rfl
  have r4 := B1.cell 4 _ rfl
  have r5 := B1.cell 5 _ rfl
  have zr0 := B1.frozen 0
  have zr1 := B1.frozen 1
  have zr2 := B1.frozen 2
  have zr3 := B1.frozen 3
  have zr4 := B1.frozen 4
  have zr5 := B1.frozen 5
  have HL := Lib.hid hlen
  generalize hR : spacesF l j = R at *
  unfold spacesF at hR
  rw [hlen] at hR
  have HR := Lib.hid hR; clear hR hlen
  generalize chA l j = c at *
  go_wp2_with ((first | (go_at_call 70; with_reducible refine fb.mono ?_) | (go_at_call 71; with_reducible refine (fs _).mono ?_)); rintro e wq ⟨rfl, hwq⟩; replace hwq := hwq.symm; subst hwq)
  go_loopw [7] (fun v wr => ∃ (f q : Nat), v = .int .i64 q ∧ Hid (spacesGo f l q = R) ∧ n < q + f ∧ q ≤ n ∧ wr = w1) (fun v _ => n - (intOf v).toNat)
  case atStart => exact ⟨n + 1, j, rfl, HR, by omega, by omega, rfl⟩
  case round =>
    obtain ⟨f, q, rfl, hG, hf, hq, rfl⟩ := hrel
    have g0 := rspaceAt (q : Int) q hS rfl
    rcases hd : spB l q with _ | _
    · have hE : R = q := by rw [← hG.out]; exact spacesGo_stop f hd
      rw [hd] at g0
      clear hG hd
      go_wp2_with fail
      refine g0.mono ?_
      rintro e wq ⟨rfl, hwq⟩; replace hwq := hwq.symm; subst hwq
      go_wp2
      refine bodyPost_ret (v := .agg #[.int .i64 13, .int .i64 j, .int .i64 q, .string ⟨#[]⟩, .string ⟨#[]⟩, .bool false]) (by simp [results, Tryz.results40, go_sem, r0, r1, r2, r3, r4, r5]) rfl ⟨by rw [hN.out, hE]; rfl, ?_⟩
      exact (((((hb1.setCell (p := ⟨w.heap.size, 0, none⟩) (Nat.le_refl _) _).setCell (p := ⟨w.heap.size, 1, none⟩) (Nat.le_refl _) _).setCell (p := ⟨w.heap.size, 2, none⟩) (Nat.le_refl _) _).setCell (p := ⟨w.heap.size, 3, none⟩) (Nat.le_refl _) _).setCell (p := ⟨w.heap.size, 4, none⟩) (Nat.le_refl _) _).setCell (p := ⟨w.heap.size, 5, none⟩) (Nat.le_refl _) _
    · have hqn : q < n := by have := lt_of_spB hd; rw [HP.out.len] at this; exact this
      obtain ⟨f, rfl⟩ : ∃ g, f = g + 1 := ⟨f - 1, by omega⟩
      have hG2 : Hid (spacesGo f l (q + 1) = R) := Lib.hid (by rw [← hG.out]; conv => rhs; rw [spacesGo, if_pos hd])
      rw [hd] at g0
      clear hG hd
      go_wp2_with fail
      refine g0.mono ?_
      rintro e wq ⟨rfl, hwq⟩; replace hwq := hwq.symm; subst hwq
      go_wp2
      go_roundw
      case rel => exact ⟨f, q + 1, by go_num, hG2, by omega, by omega, by first | rfl | trivial⟩
      case measure => simp [intOf]; omega

set_option maxRecDepth 100000 in
set_option maxHeartbeats 4000000 in
theorem rnext_name_no {b off n cap : Nat} {l : List Int} {w : World} (i : Int) (k : Nat) (h : Src w (some ⟨b, off, none⟩) n cap l) (hi : i = (k : Int)) (hk : k ≤ n) (j : Nat) (hj : behindF l k = j) (hjn : j < n) (hsp : spB l j = false) (hq1 : isB l j 34 = false) (hq2 : isB l j 39 = false) (hnu : numAt l j = false) (hcd : isB l j 45 = false) (hna : nameAt l j = true) (hid : isB l (namesF l j).2 40 = false) :
    Calls Tryz.prog 40 #[.slice (some ⟨b, off, none⟩) n cap, .int .i64 i] w (Told (tkV (nextF l k)) w) := by
  subst hi
  have hlen := h.len
  have hsm := h.small
  obtain ⟨hcap1, hcap2⟩ := h.cap
  have hkn : ¬ (n : Int) < (k : Int) := by omega
  have hN : Hid (nextF l k = calledF l j) := Lib.hid (by
    unfold nextF tokAt
    rw [hj]
    rw [if_neg (by rw [hlen]; omega), if_neg (by rw [hsp]; decide), if_neg (by rw [hq1, hq2]; decide), if_neg (by rw [hnu]; decide), if_neg (by unfold cdcB; rw [hcd]; simp), if_pos hna])
  have HP := Lib.hid h
  have hS1 : ∀ o, Src (w.alloc o) (some ⟨b, off, none⟩) n cap l := fun o => h.later ((Below.refl _ w).alloc (Nat.le_refl _) _)
  generalize nextF l k = T at *
  go_enter Tryz.func40, Tryz.ntmps40
  go_wp2_with fail
  generalize hW1 : w.alloc (.cells [.int .i64 0, .int .i64 0, .int .i64 0, .string ⟨#[]⟩, .string ⟨#[]⟩, .bool false].toArray 32) = w1 at *
  have hz1 : w1.heap.size = w.heap.size + 1 := by rw [← hW1]; simp
  have hb1 : Below w.heap.size w w1 := by rw [← hW1]; exact (Below.refl _ w).alloc (Nat.le_refl _) _
  have B1 : Blk w1 w.heap.size [.int .i64 0, .int .i64 0, .int .i64 0, .string ⟨#[]⟩, .string ⟨#[]⟩, .bool false] 32 := by rw [← hW1]; exact Blk.alloc _ _
  have hS := HP.out.later hb1
  clear hW1 hS1 h
  have fb := rbehind_any (k : Int) k hS rfl hk
  rw [hj] at fb
  have fn := rnumAt_any (j : Int) j hS rfl (by omega)
  have fm := rnameAt_any (j : Int) j hS rfl (by omega)
  obtain ⟨_, _, e0, hc⟩ := hS.cell j hjn
  cases e0
  have hch := chA_ch hS.pre j
  have hjn' : ¬ (n : Int) ≤ (j : Int) := by omega
  have fs := fun w => rspace_any (chA l j) w hch
  rw [show spaceB (chA l j) = false from hsp] at fs
  rw [hnu] at fn
  rw [hna] at fm
  have q1 : (chA l j == 34) = false := hq1
  have q2 : (chA l j == 39) = false := hq2
  have q3 : (chA l j == 45) = isB l j 45 := rfl
  rw [hcd] at q3
  have r0 := B1.cell 0 _ rfl
  have r1 := B1.cell 1 _ rfl
  have r2 := B1.cell 2 _ rfl
  have r3 := B1.cell 3 _ rfl
  have r4 := B1.cell 4 _ rfl
  have r5 := B1.cell 5 _ rfl
  have zr0 := B1.frozen 0
  have zr1 := B1.frozen 1
  have zr2 := B1.frozen 2
  have zr3 := B1.frozen 3
  have zr4 := B1.frozen 4
  have zr5 := B1.frozen 5
  clear hsp hq1 hq2 hnu hj hna hcd
  have fz := rcalled_ident (j : Int) j hS rfl hjn hid
  generalize calledF l j = U at *
  generalize chA l j = c at *
  go_wp2_with ((first | (go_at_call 70; with_reducible refine fb.mono ?_) | (go_at_call 71; with_reducible refine (fs _).mono ?_) | (go_at_call 74; with_reducible refine fn.mono ?_) | (go_at_call 77; with_reducible refine fm.mono ?_)); rintro e wq ⟨rfl, hwq⟩; replace hwq := hwq.symm; subst hwq)
  refine fz.mono ?_
  rintro e w2 ⟨rfl, hb2⟩
  have B2 := B1.later hb2 (by omega)
  have hbw2 := hb1.trans (hb2.mono (by omega))
  clear r0 r1 r2 r3 r4 r5 zr0 zr1 zr2 zr3 zr4 zr5 fs fb fn fm hS
  unfold tkV tkCells
  have r0 := B2.cell 0 _ rfl
  have r1 := B2.cell 1 _ rfl
  have r2 := B2.cell 2 _ rfl
  have r3 := B2.cell 3 _ rfl
  have r4 := B2.cell 4 _ rfl
  have r5 := B2.cell 5 _ rfl
  have zr0 := B2.frozen 0
  have zr1 := B2.frozen 1
  have zr2 := B2.frozen 2
  have zr3 := B2.frozen 3
  have zr4 := B2.frozen 4
  have zr5 := B2.frozen 5
  go_wp2
  refine bodyPost_ret (v := .agg #[.int .i64 U.kind, .int .i64 U.frm, .int .i64 U.to, .string (strOfNums U.text), .string (strOfNums U.num), .bool U.whole]) (by simp [results, Tryz.results40, go_sem, r0, r1, r2, r3, r4, r5]) rfl ⟨by rw [hN.out]; rfl, ?_⟩
  exact (((((hbw2.setCell (p := ⟨w.heap.size, 0, none⟩) (Nat.le_refl _) _).setCell (p := ⟨w.heap.size, 1, none⟩) (Nat.le_refl _) _).setCell (p := ⟨w.heap.size, 2, none⟩) (Nat.le_refl _) _).setCell (p := ⟨w.heap.size, 3, none⟩) (Nat.le_refl _) _).setCell (p := ⟨w.heap.size, 4, none⟩) (Nat.le_refl _) _).setCell (p := ⟨w.heap.size, 5, none⟩) (Nat.le_refl _) _

set_option maxRecDepth 100000 in
set_option maxHeartbeats 4000000 in
theorem rnext_name_a {b off n cap : Nat} {l : List Int} {w : World} (i : Int) (k : Nat) (h : Src w (some ⟨b, off, none⟩) n cap l) (hi : i = (k : Int)) (hk : k ≤ n) (j : Nat) (hj : behindF l k = j) (hjn : j < n) (hsp : spB l j = false) (hq1 : isB l j 34 = false) (hq2 : isB l j 39 = false) (hnu : numAt l j = false) (hcd : isB l j 45 = true) (hce : isB l (j + 1) 45 = false) (hna : nameAt l j = true) (hid : isB l (namesF l j).2 40 = false) :
    Calls Tryz.prog 40 #[.slice (some ⟨b, off, none⟩) n cap, .int .i64 i] w (Told (tkV (nextF l k)) w) := by
  subst hi
  have hlen := h.len
  have hsm := h.small
  obtain ⟨hcap1, hcap2⟩ := h.cap
  have hkn : ¬ (n : Int) < (k : Int) := by omega
  have hN : Hid (nextF l k = calledF l j) := Lib.hid (by
    unfold nextF tokAt
    rw [hj]
    rw [if_neg (by rw [hlen]; omega), if_neg (by rw [hsp]; decide), if_neg (by rw [hq1, hq2]; decide), if_neg (by rw [hnu]; decide), if_neg (by unfold cdcB; rw [hce]; simp), if_pos hna])
  have HP := Lib.hid h
  have hS1 : ∀ o, Src (w.alloc o) (some ⟨b, off, none⟩) n cap l := fun o => h.later ((Below.refl _ w).alloc (Nat.le_refl _) _)
  generalize nextF l k = T at *
  go_enter Tryz.func40, Tryz.ntmps40
  go_wp2_with fail
  generalize hW1 : w.alloc (.cells [.int .i64 0, .int .i64 0, .int .i64 0, .string ⟨#[]⟩, .string ⟨#[]⟩, .bool false].toArray 32) = w1 at *
  have hz1 : w1.heap.size = w.heap.size + 1 := by rw [← hW1]; simp
  have hb1 : Below w.heap.size w w1 := by rw [← hW1]; exact (Below.refl _ w).alloc (Nat.le_refl _) _
  have B1 : Blk w1 w.heap.size [.int .i64 0, .int .i64 0, .int .i64 0, .string ⟨#[]⟩, .string ⟨#[]⟩, .bool false] 32 := by rw [← hW1]; exact Blk.alloc _ _
  have hS := HP.out.later hb1
  clear hW1 hS1 h
  have fb := rbehind_any (k : Int) k hS rfl hk
  rw [hj] at fb
  have fn := rnumAt_any (j : Int) j hS rfl (by omega)
  have fm := rnameAt_any (j : Int) j hS rfl (by omega)
  have fd1 := ris_any ((j : Int) + 1) (j + 1) 45 hS (by omega) (by decide)
  obtain ⟨_, _, e0, hc⟩ := hS.cell j hjn
  cases e0
  have hch := chA_ch hS.pre j
  have hjn' : ¬ (n : Int) ≤ (j : Int) := by omega
  have fs := fun w => rspace_any (chA l j) w hch
  rw [show spaceB (chA l j) = false from hsp] at fs
  rw [hnu] at fn
  rw [hna] at fm
  have q1 : (chA l j == 34) = false := hq1
  have q2 : (chA l j == 39) = false := hq2
  have q3 : (chA l j == 45) = isB l j 45 := rfl
  rw [hcd] at q3
  rw [hce] at fd1
  have r0 := B1.cell 0 _ rfl
  have r1 := B1.cell 1 _ rfl
  have r2 := B1.cell 2 _ rfl
  have r3 := B1.cell 3 _ rfl
  have r4 := B1.cell 4 _ rfl
  have r5 := B1.cell 5 _ rfl
  have zr0 := B1.frozen 0
  have zr1 := B1.frozen 1
  have zr2 := B1.frozen 2
  have zr3 := B1.frozen 3
  have zr4 := B1.frozen 4
  have zr5 := B1.frozen 5
  clear hsp hq1 hq2 hnu hj hna hcd hce
  have fz := rcalled_ident (j : Int) j hS rfl hjn hid
  generalize calledF l j = U at *
  generalize chA l j = c at *
  go_wp2_with ((first | (go_at_call 70; with_reducible refine fb.mono ?_) | (go_at_call 71; with_reducible refine (fs _).mono ?_) | (go_at_call 74; with_reducible refine fn.mono ?_) | (go_at_call 77; with_reducible refine fm.mono ?_) | (go_at_call 76; with_reducible refine fd1.mono ?_)); rintro e wq ⟨rfl, hwq⟩; replace hwq := hwq.symm; subst hwq)
  refine fz.mono ?_
  rintro e w2 ⟨rfl, hb2⟩
  have B2 := B1.later hb2 (by omega)
  have hbw2 := hb1.trans (hb2.mono (by omega))
  clear r0 r1 r2 r3 r4 r5 zr0 zr1 zr2 zr3 zr4 zr5 fs fb fn fm hS
  unfold tkV tkCells
  have r0 := B2.cell 0 _ rfl
  have r1 := B2.cell 1 _ rfl
  have r2 := B2.cell 2 _ rfl
  have r3 := B2.cell 3 _ rfl
  have r4 := B2.cell 4 _ rfl
  have r5 := B2.cell 5 _ rfl
  have zr0 := B2.frozen 0
  have zr1 := B2.frozen 1
  have zr2 := B2.frozen 2
  have zr3 := B2.frozen 3
  have zr4 := B2.frozen 4
  have zr5 := B2.frozen 5
  go_wp2
  refine bodyPost_ret (v := .agg #[.int .i64 U.kind, .int .i64 U.frm, .int .i64 U.to, .string (strOfNums U.text), .string (strOfNums U.num), .bool U.whole]) (by simp [results, Tryz.results40, go_sem, r0, r1, r2, r3, r4, r5]) rfl ⟨by rw [hN.out]; rfl, ?_⟩
  exact (((((hbw2.setCell (p := ⟨w.heap.size, 0, none⟩) (Nat.le_refl _) _).setCell (p := ⟨w.heap.size, 1, none⟩) (Nat.le_refl _) _).setCell (p := ⟨w.heap.size, 2, none⟩) (Nat.le_refl _) _).setCell (p := ⟨w.heap.size, 3, none⟩) (Nat.le_refl _) _).setCell (p := ⟨w.heap.size, 4, none⟩) (Nat.le_refl _) _).setCell (p := ⟨w.heap.size, 5, none⟩) (Nat.le_refl _) _

set_option maxRecDepth 100000 in
set_option maxHeartbeats 4000000 in
theorem rnext_name_b {b off n cap : Nat} {l : List Int} {w : World} (i : Int) (k : Nat) (h : Src w (some ⟨b, off, none⟩) n cap l) (hi : i = (k : Int)) (hk : k ≤ n) (j : Nat) (hj : behindF l k = j) (hjn : j < n) (hsp : spB l j = false) (hq1 : isB l j 34 = false) (hq2 : isB l j 39 = false) (hnu : numAt l j = false) (hcd : isB l j 45 = true) (hce : isB l (j + 1) 45 = true) (hcf : isB l (j + 2) 62 = false) (hna : nameAt l j = true) (hid : isB l (namesF l j).2 40 = false) :
    Calls Tryz.prog 40 #[.slice (some ⟨b, off, none⟩) n cap, .int .i64 i] w (Told (tkV (nextF l k)) w) := by
  subst hi
  have hlen := h.len
  have hsm := h.small
  obtain ⟨hcap1, hcap2⟩ := h.cap
  have hkn : ¬ (n : Int) < (k : Int) := by omega
  have hN : Hid (nextF l k = calledF l j) := Lib.hid (by
    unfold nextF tokAt
    rw [hj]
    rw [if_neg (by rw [hlen]; omega), if_neg (by rw [hsp]; decide), if_neg (by rw [hq1, hq2]; decide), if_neg (by rw [hnu]; decide), if_neg (by unfold cdcB; rw [hcf]; simp), if_pos hna])
  have HP := Lib.hid h
  have hS1 : ∀ o, Src (w.alloc o) (some ⟨b, off, none⟩) n cap l := fun o => h.later ((Below.refl _ w).alloc (Nat.le_refl _) _)
  generalize nextF l k = T at *
  go_enter Tryz.func40, Tryz.ntmps40
  go_wp2_with fail
  generalize hW1 : w.alloc (.cells [.int .i64 0, .int .i64 0, .int .i64 0, .string ⟨#[]⟩, .string ⟨#[]⟩, .bool false].toArray 32) = w1 at *
  have hz1 : w1.heap.size = w.heap.size + 1 := by rw [← hW1]; simp
  have hb1 : Below w.heap.size w w1 := by rw [← hW1]; exact (Below.refl _ w).alloc (Nat.le_refl _) _
  have B1 : Blk w1 w.heap.size [.int .i64 0, .int .i64 0, .int .i64 0, .string ⟨#[]⟩, .string ⟨#[]⟩, .bool false] 32 := by rw [← hW1]; exact Blk.alloc _ _
  have hS := HP.out.later hb1
  clear hW1 hS1 h
  have fb := rbehind_any (k : Int) k hS rfl hk
  rw [hj] at fb
  have fn := rnumAt_any (j : Int) j hS rfl (by omega)
  have fm := rnameAt_any (j : Int) j hS rfl (by omega)
  have fd1 := ris_any ((j : Int) + 1) (j + 1) 45 hS (by omega) (by decide)
  have fd2 := ris_any ((j : Int) + 2) (j + 2) 62 hS (by omega) (by decide)
  obtain ⟨_, _, e0, hc⟩ := hS.cell j hjn
  cases e0
  have hch := chA_ch hS.pre j
  have hjn' : ¬ (n : Int) ≤ (j : Int) := by omega
  have fs := fun w => rspace_any (chA l j) w hch
  rw [show spaceB (chA l j) = false from hsp] at fs
  rw [hnu] at fn
  rw [hna] at fm
  have q1 : (chA l j == 34) = false := hq1
  have q2 : (chA l j == 39) = false := hq2
  have q3 : (chA l j == 45) = isB l j 45 := rfl
  rw [hcd] at q3
  rw [hce] at fd1
  rw [hcf] at fd2
  have r0 := B1.cell 0 _ rfl
  have r1 := B1.cell 1 _ rfl
  have r2 := B1.cell 2 _ rfl
  have r3 := B1.cell 3 _ rfl
  have r4 := B1.cell 4 _ rfl
  have r5 := B1.cell 5 _ rfl
  have zr0 := B1.frozen 0
  have zr1 := B1.frozen 1
  have zr2 := B1.frozen 2
  have zr3 := B1.frozen 3
  have zr4 := B1.frozen 4
  have zr5 := B1.frozen 5
  clear hsp hq1 hq2 hnu hj hna hcd hce hcf
  have fz := rcalled_ident (j : Int) j hS rfl hjn hid
  generalize calledF l j = U at *
  generalize chA l j = c at *
  go_wp2_with ((first | (go_at_call 70; with_reducible refine fb.mono ?_) | (go_at_call 71; with_reducible refine (fs _).mono ?_) | (go_at_call 74; with_reducible refine fn.mono ?_) | (go_at_call 77; with_reducible refine fm.mono ?_) | (go_at_call 76; with_reducible refine fd1.mono ?_) | (go_at_call 76; with_reducible refine fd2.mono ?_)); rintro e wq ⟨rfl, hwq⟩; replace hwq := hwq.symm; subst hwq)
  refine fz.mono ?_
  rintro e w2 ⟨rfl, hb2⟩
  have B2 := B1.later hb2 (by omega)
  have hbw2 := hb1.trans (hb2.mono (by omega))
  clear r0 r1 r2 r3 r4 r5 zr0 zr1 zr2 zr3 zr4 zr5 fs fb fn fm hS
  unfold tkV tkCells
  have r0 := B2.cell 0 _ rfl
  have r1 := B2.cell 1 _ rfl
  have r2 := B2.cell 2 _ rfl
  have r3 := B2.cell 3 _ rfl
  have r4 := B2.cell 4 _ rfl
  have r5 := B2.cell 5 _ rfl
  have zr0 := B2.frozen 0
  have zr1 := B2.frozen 1
  have zr2 := B2.frozen 2
  have zr3 := B2.frozen 3
  have zr4 := B2.frozen 4
  have zr5 := B2.frozen 5
  go_wp2
  refine bodyPost_ret (v := .agg #[.int .i64 U.kind, .int .i64 U.frm, .int .i64 U.to, .string (strOfNums U.text), .string (strOfNums U.num), .bool U.whole]) (by simp [results, Tryz.results40, go_sem, r0, r1, r2, r3, r4, r5]) rfl ⟨by rw [hN.out]; rfl, ?_⟩
  exact (((((hbw2.setCell (p := ⟨w.heap.size, 0, none⟩) (Nat.le_refl _) _).setCell (p := ⟨w.heap.size, 1, none⟩) (Nat.le_refl _) _).setCell (p := ⟨w.heap.size, 2, none⟩) (Nat.le_refl _) _).setCell (p := ⟨w.heap.size, 3, none⟩) (Nat.le_refl _) _).setCell (p := ⟨w.heap.size, 4, none⟩) (Nat.le_refl _) _).setCell (p := ⟨w.heap.size, 5, none⟩) (Nat.le_refl _) _
end
end Go.Proofs.YtdopmkiogmejaaaGreatDoor
