/- Texts of mine in one: Rw Rx0. -/
import Derived.Test.YtcfhggdiccilaaaGreatQ25
import Derived.Test.YtcfhggdiccilaaaGreatQ26
namespace Go.Proofs.YtcfhggdiccilaaaGreat
section
open Go.RowKit
set_option linter.unusedVariables false
set_option linter.unusedSimpArgs false
set_option maxRecDepth 100000 in
set_option maxHeartbeats 4000000 in
theorem rnames_p {a : Option Addr} {n cap : Nat} {l : List Int} {w : World} (i : Int) (k : Nat) (h : Src w a n cap l) (hi : i = (k : Int)) (hk : k ≤ n) (hno : ∀ j, escB l j = false) :
    Calls Tryz.prog 80 #[.slice a n cap, .int .i64 i] w (Told (.tuple #[.string (strOfNums (bytesF (namesF l k).1)), .int .i64 ((namesF l k).2 : Nat)]) w) := by
  subst hi
  have HNO := Lib.hid hno
  clear hno
  obtain ⟨i0, hi, hz0, hz1, hz2⟩ := info_parts Tryz.info3
  have hlen := h.len
  have hsm := h.small
  obtain ⟨hcap1, hcap2⟩ := h.cap
  have own0 := World.ownsRow_made (base := w.heap.size) (e := 3) (size := 1) w #[] 0 (Nat.le_refl _) (by simp [maxLen]) (by simp)
  generalize hR : namesF l k = R
  unfold namesF at hR
  rw [hlen] at hR
  have HR := Lib.hid hR; clear hR
  have HL := Lib.hid hlen; clear hlen
  have HP := Lib.hid h; clear h
  go_enter Tryz.func80, Tryz.ntmps80
  go_wp2_with fail
  go_loopw [1, 6] (fun at_ v wr => ∃ (f j : Nat) (acc : List Int), at_ = .int .i64 j ∧ wr.ownsRow w.heap.size 3 1 v acc.length (acc.map (Value.int .i64)) ∧ Hid (namesGo f l j acc = R) ∧ n < j + f ∧ j ≤ n ∧ acc.length ≤ j ∧ Below w.heap.size w wr)
    (fun at_ _ _ => n - (intOf at_).toNat)
  case atStart => exact ⟨n + 1, k, [], rfl, own0, HR, by omega, hk, by simp, (Below.refl _ w).alloc (Nat.le_refl _) _⟩
  case round =>
    obtain ⟨f, j, acc, rfl, hown, hG, hf, hj, hal, hbl⟩ := hrel
    have hS := Lib.hid (HP.out.later hbl)
    have hsz := hbl.size
    obtain ⟨f, rfl⟩ : ∃ g, f = g + 1 := ⟨f - 1, by omega⟩
    have f0 := rinnerAt (j : Int) j hS.out rfl
    rcases hnm : nmB l j with _ | _
    · have f1 := resc_any (j : Int) j hS.out rfl (by omega)
      rw [hnm] at f0
      rcases hes : escB l j with _ | _
      · have hE : R = (acc, j) := by rw [← hG.out, namesGo, if_neg (by rw [hnm]; decide), if_neg (by rw [hes]; decide)]
        rw [hes] at f1
        obtain ⟨a2, c2, hv, hrd⟩ := Reads.of_owns hown
        subst hv
        clear hG hnm hes hown
        go_wp2_with ((first | (go_at_call 81; with_reducible refine f0.mono ?_) | (go_at_call 82; with_reducible refine f1.mono ?_)); rintro e w1 ⟨rfl, hw1⟩; replace hw1 := hw1.symm; subst hw1)
        refine (rtext_any a2 c2 acc.length acc wr rfl hrd (by omega)).mono ?_
        rintro e w2 ⟨rfl, hb2⟩
        go_wp2
        go_ret2
        exact ⟨by rw [hE]; rfl, hbl.trans (hb2.mono hbl.size)⟩
      · exact absurd hes (by rw [HNO.out]; decide)
    · have hjn : j < n := by have := lt_of_nmB hnm; rw [HL.out] at this; exact this
      have hG2 : Hid (namesGo f l (j + 1) (acc ++ [chA l j]) = R) := Lib.hid (by rw [← hG.out]; conv => rhs; rw [namesGo, if_pos hnm])
      obtain ⟨b, off, rfl, hc⟩ := hS.out.cell j hjn
      rw [hnm] at f0
      clear hG hnm
      generalize chA l j = c at *
      go_wp2_with ((first | (go_at_call 81; (with_reducible refine f0.mono ?_); rintro e w1 ⟨rfl, hw1⟩; replace hw1 := hw1.symm; subst hw1) | (at_builtin; refine wpList_append_reads rfl _ _ 27 rfl w.heap.size 3 i0 .i64 8 Tryz.underlying27 hi hz0 hz1 hz2 _ acc.length acc rfl (hown.alloc _) rfl (some ⟨wr.heap.size, 0, none⟩) 1 1 [c] rfl rfl (reads_new wr .i64 _ 3 1 rfl (by unfold maxLen; omega)) (fun h => by cases h) (by unfold maxLen; omega) (by omega) (by simp <;> omega) ?_; intro v' w3 hown3 hgrow3)))
      have hbl3 : Below w.heap.size w w3 := (hbl.alloc hsz _).grown hgrow3 (by simp <;> omega) (fun j hj => (hown.lt j hj).1)
      go_roundw
      case rel => exact ⟨f, j + 1, acc ++ [c], by go_num, hown3, hG2, by omega, by omega, by rw [List.length_append]; simp; omega, hbl3⟩
      case measure => simp [intOf]; omega
set_option maxRecDepth 100000 in
set_option maxHeartbeats 4000000 in
theorem rcalled_p {b off n cap : Nat} {l : List Int} {w : World} (i : Int) (k : Nat) (h : Src w (some ⟨b, off, none⟩) n cap l) (hi : i = (k : Int)) (hk : k < n) (hid : isB l (namesF l k).2 40 = false) (hno : ∀ j, escB l j = false) :
    Calls Tryz.prog 79 #[.slice (some ⟨b, off, none⟩) n cap, .int .i64 i] w (Told (tkV (calledF l k)) w) := by
  subst hi
  have HNO := Lib.hid hno
  clear hno
  have hlen := h.len
  have hsm := h.small
  obtain ⟨hcap1, hcap2⟩ := h.cap
  obtain ⟨hn1, hn2⟩ := namesF_le l k
  have hn2 := hn2 (by omega)
  rw [hlen] at hn2
  have hN : Hid (calledF l k = ⟨1, k, (namesF l k).2, bytesF (namesF l k).1, [], false⟩) := Lib.hid (by unfold calledF; rw [hid]; rfl)
  have HP := Lib.hid h
  have hS1 : ∀ o, Src (w.alloc o) (some ⟨b, off, none⟩) n cap l := fun o => h.later ((Below.refl _ w).alloc (Nat.le_refl _) _)
  go_enter Tryz.func79, Tryz.ntmps79
  go_wp2_with fail
  generalize hW1 : w.alloc (.cells [.int .i64 0, .int .i64 0, .int .i64 0, .string ⟨#[]⟩, .string ⟨#[]⟩, .bool false].toArray 93) = w1 at *
  have hz1 : w1.heap.size = w.heap.size + 1 := by rw [← hW1]; simp
  have hb1 : Below w.heap.size w w1 := by rw [← hW1]; exact (Below.refl _ w).alloc (Nat.le_refl _) _
  have B1 : Blk w1 w.heap.size [.int .i64 0, .int .i64 0, .int .i64 0, .string ⟨#[]⟩, .string ⟨#[]⟩, .bool false] 93 := by rw [← hW1]; exact Blk.alloc _ _
  have hS := HP.out.later hb1
  clear hW1 hS1 h
  refine (rnames_p (k : Int) k hS rfl (by omega) HNO.out).mono ?_
  rintro e w2 ⟨rfl, hb2⟩
  have hS2 := hS.later hb2
  have B2 := B1.later hb2 (by omega)
  have hbw2 := hb1.trans (hb2.mono (by omega))
  have f1 := ris_any ((namesF l k).2 : Int) (namesF l k).2 40 hS2 rfl (by decide)
  rw [hid] at f1
  clear hb1 hb2 B1 hS hid
  generalize calledF l k = T at *
  generalize bytesF (namesF l k).1 = txt at *
  generalize (namesF l k).2 = m at *
  have r0 := B2.cell 0 _ rfl
  have r1 := B2.cell 1 _ rfl
  have r2 := B2.cell 2 _ rfl
  have r3 := B2.cell 3 _ rfl
  have r4 := B2.cell 4 _ rfl
  have r5 := B2.cell 5 _ rfl
  have zr0 := B2.frozen 0
  have zr1 := B2.frozen 1
  have zr2 := B2.frozen 2
  have zr3 := B2.frozen 3
  have zr4 := B2.frozen 4
  have zr5 := B2.frozen 5
  go_wp2_with fail
  refine f1.mono ?_
  rintro e wq ⟨rfl, hwq⟩; replace hwq := hwq.symm; subst hwq
  go_wp2
  refine bodyPost_ret (v := .agg #[.int .i64 1, .int .i64 k, .int .i64 m, .string (strOfNums txt), .string ⟨#[]⟩, .bool false]) (by simp [results, Tryz.results79, go_sem, r0, r1, r2, r3, r4, r5]) rfl ⟨by rw [hN.out]; rfl, ?_⟩
  exact (((((hbw2.setCell (p := ⟨w.heap.size, 0, none⟩) (Nat.le_refl _) _).setCell (p := ⟨w.heap.size, 1, none⟩) (Nat.le_refl _) _).setCell (p := ⟨w.heap.size, 2, none⟩) (Nat.le_refl _) _).setCell (p := ⟨w.heap.size, 3, none⟩) (Nat.le_refl _) _).setCell (p := ⟨w.heap.size, 4, none⟩) (Nat.le_refl _) _).setCell (p := ⟨w.heap.size, 5, none⟩) (Nat.le_refl _) _
set_option maxRecDepth 100000 in
set_option maxHeartbeats 4000000 in
theorem rnext_name_p {b off n cap : Nat} {l : List Int} {w : World} (i : Int) (k : Nat) (h : Src w (some ⟨b, off, none⟩) n cap l) (hi : i = (k : Int)) (hk : k ≤ n) (j : Nat) (hj : behindF l k = j) (hjn : j < n) (hsp : spB l j = false) (hq1 : isB l j 34 = false) (hq2 : isB l j 39 = false) (hnu : numAt l j = false) (hcd : isB l j 45 = false) (hna : nameAt l j = true) (hid : isB l (namesF l j).2 40 = false) (hno : ∀ j, escB l j = false) :
    Calls Tryz.prog 57 #[.slice (some ⟨b, off, none⟩) n cap, .int .i64 i] w (Told (tkV (nextF l k)) w) := by
  subst hi
  have HNO := Lib.hid hno
  clear hno
  have hlen := h.len
  have hsm := h.small
  obtain ⟨hcap1, hcap2⟩ := h.cap
  have hkn : ¬ (n : Int) < (k : Int) := by omega
  have hN : Hid (nextF l k = calledF l j) := Lib.hid (by
    unfold nextF tokAt
    rw [hj]
    rw [if_neg (by rw [hlen]; omega), if_neg (by rw [hsp]; decide), if_neg (by rw [hq1, hq2]; decide), if_neg (by rw [hnu]; decide), if_neg (by unfold cdcB; rw [hcd]; simp), if_pos hna])
  have HP := Lib.hid h
  have hS1 : ∀ o, Src (w.alloc o) (some ⟨b, off, none⟩) n cap l := fun o => h.later ((Below.refl _ w).alloc (Nat.le_refl _) _)
  generalize nextF l k = T at *
  go_enter Tryz.func57, Tryz.ntmps57
  go_wp2_with fail
  generalize hW1 : w.alloc (.cells [.int .i64 0, .int .i64 0, .int .i64 0, .string ⟨#[]⟩, .string ⟨#[]⟩, .bool false].toArray 93) = w1 at *
  have hz1 : w1.heap.size = w.heap.size + 1 := by rw [← hW1]; simp
  have hb1 : Below w.heap.size w w1 := by rw [← hW1]; exact (Below.refl _ w).alloc (Nat.le_refl _) _
  have B1 : Blk w1 w.heap.size [.int .i64 0, .int .i64 0, .int .i64 0, .string ⟨#[]⟩, .string ⟨#[]⟩, .bool false] 93 := by rw [← hW1]; exact Blk.alloc _ _
  have hS := HP.out.later hb1
  clear hW1 hS1 h
  have fb := rbehind_any (k : Int) k hS rfl hk
  rw [hj] at fb
  have fn := rnumAt_any (j : Int) j hS rfl (by omega)
  have fm := rnameAt_any (j : Int) j hS rfl (by omega)
  obtain ⟨_, _, e0, hc⟩ := hS.cell j hjn
  cases e0
  have hch := chA_ch hS.pre j
  have hjn' : ¬ (n : Int) ≤ (j : Int) := by omega
  have fs := fun w => rspace_any (chA l j) w hch
  rw [show spaceB (chA l j) = false from hsp] at fs
  rw [hnu] at fn
  rw [hna] at fm
  have q1 : (chA l j == 34) = false := hq1
  have q2 : (chA l j == 39) = false := hq2
  have q3 : (chA l j == 45) = isB l j 45 := rfl
  rw [hcd] at q3
  have r0 := B1.cell 0 _ rfl
  have r1 := B1.cell 1 _ rfl
  have r2 := B1.cell 2 _ rfl
  have r3 := B1.cell 3 _ rfl
  have r4 := B1.cell 4 _ rfl
  have r5 := B1.cell 5 _ rfl
  have zr0 := B1.frozen 0
  have zr1 := B1.frozen 1
  have zr2 := B1.frozen 2
  have zr3 := B1.frozen 3
  have zr4 := B1.frozen 4
  have zr5 := B1.frozen 5
  clear hsp hq1 hq2 hnu hj hna hcd
  have fz := rcalled_p (j : Int) j hS rfl hjn hid HNO.out
  generalize calledF l j = U at *
  generalize chA l j = c at *
  go_wp2_with ((first | (go_at_call 71; with_reducible refine fb.mono ?_) | (go_at_call 72; with_reducible refine (fs _).mono ?_) | (go_at_call 75; with_reducible refine fn.mono ?_) | (go_at_call 78; with_reducible refine fm.mono ?_)); rintro e wq ⟨rfl, hwq⟩; replace hwq := hwq.symm; subst hwq)
  refine fz.mono ?_
  rintro e w2 ⟨rfl, hb2⟩
  have B2 := B1.later hb2 (by omega)
  have hbw2 := hb1.trans (hb2.mono (by omega))
  clear r0 r1 r2 r3 r4 r5 zr0 zr1 zr2 zr3 zr4 zr5 fs fb fn fm hS
  unfold tkV tkCells
  have r0 := B2.cell 0 _ rfl
  have r1 := B2.cell 1 _ rfl
  have r2 := B2.cell 2 _ rfl
  have r3 := B2.cell 3 _ rfl
  have r4 := B2.cell 4 _ rfl
  have r5 := B2.cell 5 _ rfl
  have zr0 := B2.frozen 0
  have zr1 := B2.frozen 1
  have zr2 := B2.frozen 2
  have zr3 := B2.frozen 3
  have zr4 := B2.frozen 4
  have zr5 := B2.frozen 5
  go_wp2
  refine bodyPost_ret (v := .agg #[.int .i64 U.kind, .int .i64 U.frm, .int .i64 U.to, .string (strOfNums U.text), .string (strOfNums U.num), .bool U.whole]) (by simp [results, Tryz.results57, go_sem, r0, r1, r2, r3, r4, r5]) rfl ⟨by rw [hN.out]; rfl, ?_⟩
  exact (((((hbw2.setCell (p := ⟨w.heap.size, 0, none⟩) (Nat.le_refl _) _).setCell (p := ⟨w.heap.size, 1, none⟩) (Nat.le_refl _) _).setCell (p := ⟨w.heap.size, 2, none⟩) (Nat.le_refl _) _).setCell (p := ⟨w.heap.size, 3, none⟩) (Nat.le_refl _) _).setCell (p := ⟨w.heap.size, 4, none⟩) (Nat.le_refl _) _).setCell (p := ⟨w.heap.size, 5, none⟩) (Nat.le_refl _) _
end

section
open Go.RowKit
set_option linter.unusedSimpArgs false
set_option linter.unusedVariables false
def PlainC (c : Int) : Bool := spaceB c || decide (c = 97) || decide (c = 98) || decide (c = 62)
def PlainL (l : List Int) : Prop := ∀ c ∈ l, PlainC c = true
theorem PlainL.pre {l : List Int} (h : PlainL l) : Pre l := fun c hc => by
  have := h c hc
  unfold PlainC spaceB at this
  simp only [Bool.or_eq_true, decide_eq_true_eq] at this
  omega
theorem plain_not {l : List Int} (h : PlainL l) (j : Nat) (c : Int) (hc : c ≠ 0) (hn : PlainC c = false) : isB l j c = false := by
  rcases hq : isB l j c with _ | _
  · rfl
  · have hj := lt_of_isB hq hc
    have e := isB_iff.1 hq
    have hm : chA l j ∈ l := by unfold chA; rw [List.getElem?_eq_getElem hj]; exact List.getElem_mem hj
    have := h _ hm
    rw [e, hn] at this
    cases this
theorem plain_behind {l : List Int} (h : PlainL l) (j : Nat) : behindF l j = j :=
  behindGo_stop _ (by unfold openB; rw [plain_not h j 47 (by decide) (by decide)]; rfl)
theorem plain_esc {l : List Int} (h : PlainL l) (j : Nat) : escB l j = false := by unfold escB; rw [plain_not h j 92 (by decide) (by decide)]; rfl
theorem plain_dg {l : List Int} (h : PlainL l) (j : Nat) : dgB l j = false := by
  unfold dgB
  by_cases hj : j < l.length
  · have hm : chA l j ∈ l := by unfold chA; rw [List.getElem?_eq_getElem hj]; exact List.getElem_mem hj
    have hp := h _ hm
    rcases hq : digitB (chA l j) with _ | _
    · rfl
    · unfold PlainC spaceB at hp
      unfold digitB at hq
      simp only [Bool.or_eq_true, Bool.and_eq_true, decide_eq_true_eq] at hp hq
      omega
  · have h0 : chA l j = 0 := by unfold chA; rw [List.getElem?_eq_none (by omega)]; rfl
    rw [h0]; decide
theorem plain_num {l : List Int} (h : PlainL l) (j : Nat) : numAt l j = false := by
  unfold numAt fracAt
  rw [plain_dg h, plain_dg h, Bool.and_false]
  rfl
theorem plain_cases {l : List Int} (h : PlainL l) (j : Nat) (hj : j < l.length) (hsp : spB l j = false) (hna : nameAt l j = false) : chA l j = 62 := by
  have hm : chA l j ∈ l := by unfold chA; rw [List.getElem?_eq_getElem hj]; exact List.getElem_mem hj
  have hp := h _ hm
  unfold nameAt at hna
  rw [if_neg (by rw [plain_not h j 45 (by decide) (by decide)]; decide), Bool.or_eq_false_iff] at hna
  have hs := hna.1
  unfold stB startB at hs
  unfold spB at hsp
  unfold PlainC at hp
  rw [hsp] at hp
  simp only [Bool.false_or, Bool.or_eq_true, decide_eq_true_eq] at hp
  rcases hp with (hp | hp) | hp
  · rw [hp] at hs; exact absurd hs (by decide)
  · rw [hp] at hs; exact absurd hs (by decide)
  · exact hp
theorem rnext_plain {b off n cap : Nat} {l : List Int} {w : World} (i : Int) (k : Nat) (h : Src w (some ⟨b, off, none⟩) n cap l) (hi : i = (k : Int)) (hk : k ≤ n) (hp : PlainL l) :
    Calls Tryz.prog 57 #[.slice (some ⟨b, off, none⟩) n cap, .int .i64 i] w (Told (tkV (nextF l k)) w) := by
  have hb := plain_behind hp k
  by_cases hkn : n ≤ k
  · exact rnext_end i k h hi hk k hb hkn
  · have hjn : k < n := by omega
    have n34 := plain_not hp k 34 (by decide) (by decide)
    have n39 := plain_not hp k 39 (by decide) (by decide)
    have hnu := plain_num hp k
    have h45 := plain_not hp k 45 (by decide) (by decide)
    rcases hsp : spB l k with _ | _
    · rcases hna : nameAt l k with _ | _
      · have n60 := plain_not hp k 60 (by decide) (by decide)
        have n64 := plain_not hp k 64 (by decide) (by decide)
        have n35 := plain_not hp k 35 (by decide) (by decide)
        have hc := plain_cases hp k (by rw [h.len]; exact hjn) hsp hna
        exact rnext_delim_no i k h hi hk k hb hjn hsp n34 n39 hnu (by unfold isB; rw [hc]; decide) hna n60 n64 n35 (by rw [hc]; decide)
      · have hid := plain_not hp (namesF l k).2 40 (by decide) (by decide)
        exact rnext_name_p i k h hi hk k hb hjn hsp n34 n39 hnu h45 hna hid (plain_esc hp)
    · exact rnext_space i k h hi hk k hb hjn hsp
theorem plain_to {l : List Int} (hp : PlainL l) (k : Nat) (hk : k ≤ l.length) : ((nextF l k).kind = 0 → l.length ≤ k) ∧ ((nextF l k).kind ≠ 0 → k < (nextF l k).to ∧ (nextF l k).to ≤ l.length) := by
  unfold nextF
  rw [plain_behind hp k]
  unfold tokAt
  have n34 := plain_not hp k 34 (by decide) (by decide)
  have n39 := plain_not hp k 39 (by decide) (by decide)
  by_cases hjn : l.length ≤ k
  · rw [if_pos hjn]; exact ⟨fun _ => hjn, fun h => absurd rfl h⟩
  · rw [if_neg hjn]
    by_cases hsp : spB l k = true
    · rw [if_pos hsp]; exact ⟨fun h => by simp at h, fun _ => ⟨spacesF_pos hsp, spacesF_le l k hk⟩⟩
    · rw [if_neg hsp, if_neg (by rw [n34, n39]; decide)]
      have hsp' : spB l k = false := by simpa using hsp
      have hnu' := plain_num hp k
      rw [if_neg (by rw [hnu']; decide), if_neg (by unfold cdcB; rw [plain_not hp k 45 (by decide) (by decide)]; simp)]
      by_cases hna : nameAt l k = true
      · rw [if_pos hna]
        unfold calledF
        rw [plain_not hp (namesF l k).2 40 (by decide) (by decide), if_pos (by decide)]
        exact ⟨fun h => by simp at h, fun _ => ⟨namesF_pos (nameAt_first hna), (namesF_le l k).2 hk⟩⟩
      · have hna' : nameAt l k = false := by simpa using hna
        rw [if_neg hna, if_neg (by unfold cdoB; rw [plain_not hp k 60 (by decide) (by decide)]; simp), if_neg (by unfold atSgB; rw [plain_not hp k 64 (by decide) (by decide)]; simp), if_neg (by unfold hashB; rw [plain_not hp k 35 (by decide) (by decide)]; simp)]
        have hs : signKind (chA l k) = 9 := by rw [plain_cases hp k (by omega) hsp' hna']; decide
        rw [if_pos hs]
        exact ⟨fun h => by simp at h, fun _ => ⟨by show k < k + 1; omega, by show k + 1 ≤ l.length; omega⟩⟩
end
end Go.Proofs.YtcfhggdiccilaaaGreat
