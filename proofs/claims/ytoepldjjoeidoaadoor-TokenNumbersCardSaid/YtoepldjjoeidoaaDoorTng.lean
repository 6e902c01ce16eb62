/- Tokens, the program's side: the next token; all of them: walks. -/
import Derived.Test.YtoepldjjoeidoaaDoorTnf
import Derived.Test.YtoepldjjoeidoaaDoorTks
namespace Go.Proofs.YtoepldjjoeidoaaDoor
open Go.RowKit Go.Shelf
set_option linter.unusedVariables false
set_option linter.unusedSimpArgs false

theorem blk_set6 {w : World} {p : Nat} {T : TypeId} {a0 a1 a2 a3 a4 a5 : Value} (h : Blk w p [a0, a1, a2, a3, a4, a5] T) (v0 v1 v2 v3 v4 v5 : Value) :
    Blk ((((((w.setCell ⟨p, 0, none⟩ v0).setCell ⟨p, 1, none⟩ v1).setCell ⟨p, 2, none⟩ v2).setCell ⟨p, 3, none⟩ v3).setCell ⟨p, 4, none⟩ v4).setCell ⟨p, 5, none⟩ v5) p [v0, v1, v2, v3, v4, v5] T :=
  (((((h.setCell 0 v0).setCell 1 v1).setCell 2 v2).setCell 3 v3).setCell 4 v4).setCell 5 v5

set_option maxRecDepth 100000 in
set_option maxHeartbeats 4000000 in
theorem next_any {a : Option Addr} {n cap : Nat} {l : List Int} {w : World} (i : Int) (k : Nat) (h : Src w a n cap l) (hT : TkW w) (hi : i = (k : Int)) (hk : k ≤ n) :
    Calls Tryd.prog 32 #[.slice a n cap, .int .i64 i] w (Told (tkV (nextF l k)) w) := by
  subst hi
  have hsm := h.small
  have HL := Lib.hid h.len
  have hbl := behindF_le (l := l) (j := k) (by rw [h.len]; exact hk)
  rw [h.len] at hbl
  obtain ⟨hbl1, hbl2⟩ := hbl
  have hfr := Lib.hid (fun hh : behindF l k < l.length => tk_frm (l := l) (j := k) hh)
  have hen := Lib.hid (fun hh : l.length ≤ behindF l k => tokAt_end (l := l) (k := behindF l k) hh)
  have hnx := Lib.hid (show nextF l k = tokAt l (behindF l k) from rfl)
  generalize hR : nextF l k = R at *
  clear hR
  have hW0 : ∃ W0, W0 = w.alloc (.cells #[.int .i64 0, .int .i64 0, .int .i64 0, .string ⟨#[]⟩, .string ⟨#[]⟩, .bool false] 33) := ⟨_, rfl⟩
  obtain ⟨W0, hW0⟩ := hW0
  have hb0 : Below w.heap.size w W0 := by rw [hW0]; exact (Below.refl _ w).alloc (Nat.le_refl _) _
  have HB0 := Lib.hid (show Blk W0 w.heap.size zeroTk 33 from by rw [hW0]; exact Blk.alloc _ _)
  have HP := Lib.hid h
  have HT := Lib.hid hT
  have cW := fun w => within_any (a := a) (n := n) (cap := cap) (w := w) (k : Int) k rfl (by omega) hsm
  rw [Nat.min_eq_left hk] at cW
  have cC := passComments_any (k : Int) k (h.later hb0) rfl hk
  have HBL := Lib.hid hb0
  have HW0 := Lib.hid hW0
  clear h hT hb0 hW0
  generalize behindF l k = j at *
  go_enter Tryd.func32, Tryd.ntmps32
  go_wp2_with fail
  rw [show w.alloc (Obj.cells #[.int .i64 0, .int .i64 0, .int .i64 0, .string ⟨#[]⟩, .string ⟨#[]⟩, .bool false] 33) = W0 from HW0.out.symm]
  refine (cW _).mono ?_
  rintro e w' ⟨rfl, hw'⟩; replace hw' := hw'.symm; subst hw'
  go_wp2_with fail
  refine cC.mono ?_
  rintro e w1 ⟨rfl, hb1⟩
  have hB1 := HB0.out.later hb1 HB0.out.lt
  have hbw1 := HBL.out.trans (hb1.mono HBL.out.size)
  clear cC hb1
  rcases Nat.lt_or_ge j n with hjn | hjn
  · have hq : ((j : Int) == (n : Int)) = false := beq_eq_false_iff_ne.2 (by omega)
    have e := Lib.hid (hfr.out (by rw [HL.out]; exact hjn))
    have cR := read_any3 (j : Int) j (HP.out.later hbw1) (HT.out.later hbw1) rfl hjn
    clear hfr hen hnx
    generalize tkZ (tokAt l j) = Z at *
    go_wp2_with fail
    refine cR.mono ?_
    rintro ee w2 ⟨rfl, hb2⟩
    have hB2 := hB1.later hb2 hB1.lt
    have hbw2 := hbw1.trans (hb2.mono hbw1.size)
    have hz2 := hB2.lt
    obtain ⟨kd, fr, to_, tx, nm, wh⟩ := Z
    unfold tkV tkCells
    clear cR hb2 hB1 hbw1
    have hne1 : ¬ w.heap.size = w2.heap.size := by omega
    have hne2 : ¬ w2.heap.size = w.heap.size := by omega
    have r0 := hB2.cell 0 _ rfl
    have r1 := hB2.cell 1 _ rfl
    have r2 := hB2.cell 2 _ rfl
    have r3 := hB2.cell 3 _ rfl
    have r4 := hB2.cell 4 _ rfl
    have r5 := hB2.cell 5 _ rfl
    have zr0 := hB2.frozen 0
    have zr1 := hB2.frozen 1
    have zr2 := hB2.frozen 2
    have zr3 := hB2.frozen 3
    have zr4 := hB2.frozen 4
    have zr5 := hB2.frozen 5
    have HBW := Lib.hid hbw2
    clear hbw2
    go_wp2
    have B6 := (blk_set6 hB2 (.int .i64 kd) (.int .i64 j) (.int .i64 to_) (.string (strOfNums tx)) (.string (strOfNums nm)) (.bool wh)).alloc_old (.cells #[.int .i64 kd, .int .i64 j, .int .i64 to_, .string (strOfNums tx), .string (strOfNums nm), .bool wh] 33)
    have b0 := B6.cell 0 _ rfl
    have b1 := B6.cell 1 _ rfl
    have b2 := B6.cell 2 _ rfl
    have b3 := B6.cell 3 _ rfl
    have b4 := B6.cell 4 _ rfl
    have b5 := B6.cell 5 _ rfl
    refine bodyPost_ret (v := .agg #[.int .i64 kd, .int .i64 j, .int .i64 to_, .string (strOfNums tx), .string (strOfNums nm), .bool wh]) (by simp [results, Tryd.results32, go_sem, b0, b1, b2, b3, b4, b5]) rfl ⟨by rw [← e.out]; rfl, ?_⟩
    exact (below_set6 HBW.out (Nat.le_refl _) _ _ _ _ _ _).alloc (by simpa using HBW.out.size) _
  · obtain rfl : j = n := by omega
    have hq : ((j : Int) == (j : Int)) = true := beq_self_eq_true _
    have e := Lib.hid (show (⟨0, j, j, [], [], false⟩ : Tk) = R from by rw [hnx.out, hen.out (by rw [HL.out]; exact Nat.le_refl _), HL.out])
    clear hfr hen hnx hjn
    have r0 := hB1.cell 0 _ rfl
    have r1 := hB1.cell 1 _ rfl
    have r2 := hB1.cell 2 _ rfl
    have r3 := hB1.cell 3 _ rfl
    have r4 := hB1.cell 4 _ rfl
    have r5 := hB1.cell 5 _ rfl
    have q0 := hB1.frozen 0
    have q1 := hB1.frozen 1
    have q2 := hB1.frozen 2
    have q3 := hB1.frozen 3
    have q4 := hB1.frozen 4
    have q5 := hB1.frozen 5
    go_wp2
    refine bodyPost_ret (v := .agg #[.int .i64 0, .int .i64 j, .int .i64 j, .string ⟨#[]⟩, .string ⟨#[]⟩, .bool false]) (by simp [results, Tryd.results32, go_sem, r0, r1, r2, r3, r4, r5]) rfl ⟨by rw [← e.out]; rfl, ?_⟩
    exact below_set6 hbw1 (Nat.le_refl _) _ _ _ _ _ _

set_option maxRecDepth 100000 in
set_option maxHeartbeats 4000000 in
theorem all_any {a : Option Addr} {n cap : Nat} {l : List Int} {w : World} (h : Src w a n cap l) (hT : TkW w) :
    Calls Tryd.prog 21 #[.slice a n cap] w (TksPost (allF l) w) := by
  obtain ⟨i0, hi, hz0, hz1, hz2⟩ := info_parts Tryd.infoTok
  have hlen := h.len
  have hsm := h.small
  have own0 := World.ownsRow_nil w w.heap.size 33 6
  generalize hR : allF l = R
  unfold allF at hR
  rw [hlen] at hR
  have HR := Lib.hid hR; clear hR
  have HL := Lib.hid hlen; clear hlen
  have HP := Lib.hid h; clear h
  have HT := Lib.hid hT; clear hT
  go_enter Tryd.func21, Tryd.ntmps21
  go_wp2_with fail
  go_loopw [3, 4] (fun v at_ wr => ∃ (f j : Nat) (acc : List Tk), at_ = .int .i64 j ∧ wr.ownsRow w.heap.size 33 6 v acc.length (acc.flatMap tkCells) ∧ Hid (allGo f l j acc = R) ∧ n < j + f ∧ j ≤ n ∧ acc.length ≤ j ∧ Below w.heap.size w wr)
    (fun _ at_ _ => n - (intOf at_).toNat)
  case atStart => exact ⟨n + 1, 0, [], rfl, own0, HR, by omega, by omega, by simp, Below.refl _ _⟩
  case round =>
    obtain ⟨f, j, acc, rfl, hown, hG, hf, hj, hal, hbl⟩ := hrel
    have hS := HP.out.later hbl
    obtain ⟨f, rfl⟩ : ∃ g, f = g + 1 := ⟨f - 1, by omega⟩
    have t2 : (nextF l j).kind ≠ 0 → j < (nextF l j).to ∧ (nextF l j).to ≤ n := fun hk => by
      rcases nextF_bd (l := l) (j := j) (by rw [HL.out]; exact hj) with ⟨h, _⟩ | ⟨_, _, h1, h2⟩
      · rw [h] at hk; exact absurd rfl hk
      · exact ⟨h1, by rw [← HL.out]; exact h2⟩
    have hx := next_any (j : Int) j hS (HT.out.later hbl) rfl hj
    have hG' : Hid ((if (nextF l j).kind = 0 then acc ++ [nextF l j] else allGo f l (nextF l j).to (acc ++ [nextF l j])) = R) := Lib.hid (by rw [← hG.out]; rfl)
    clear hG
    generalize nextF l j = t at *
    go_wp2_with fail
    refine hx.mono ?_
    rintro e w2 ⟨rfl, hb2⟩
    have hown2 := owns_later hown hb2
    have hbl2 := hbl.trans (hb2.mono hbl.size)
    have hsz2 := hbl2.size
    have hsz := hbl.size
    clear hown hx hS
    have hA : ∀ o : Obj, (w2.alloc o).heap.size = w2.heap.size + 1 := fun o => by simp
    have hB := Blk.alloc (w := w2.alloc (.cells (tkCells t).toArray 33)) (tkCells t) 33
    rw [hA] at hB
    have hnews : ∀ j u, (tkCells t)[j]? = some u → ((w2.alloc (.cells (tkCells t).toArray 33)).alloc (.cells (tkCells t).toArray 33)).cell? ((⟨w2.heap.size + 1, 0, none⟩ : Addr).add j) = some u := fun j u hu => by
      have h0 := hB.cell j u hu
      rw [← h0]; congr 1; unfold Addr.add; simp <;> (intro h; exact h.symm)
    have hown4 := (hown2.alloc (.cells (tkCells t).toArray 33)).alloc (.cells (tkCells t).toArray 33)
    have hbl4 := (hbl2.alloc hsz2 (.cells (tkCells t).toArray 33)).alloc (by rw [hA]; omega) (.cells (tkCells t).toArray 33)
    have B5 : Blk ((w2.alloc (.cells (tkCells t).toArray 33)).alloc (.cells (tkCells t).toArray 33)) w2.heap.size (tkCells t) 33 := (Blk.alloc _ _).alloc_old _
    have hone := tk_cells t
    have hz4 : ((w2.alloc (.cells (tkCells t).toArray 33)).alloc (.cells (tkCells t).toArray 33)).heap.size = w2.heap.size + 2 := by simp
    unfold tkV
    rw [show (tkCells t).toArray = #[.int .i64 t.kind, .int .i64 t.frm, .int .i64 t.to, .string (strOfNums t.text), .string (strOfNums t.num), .bool t.whole] from rfl] at *
    have hlA : ∀ t : Tk, (acc ++ [t]).flatMap tkCells = acc.flatMap tkCells ++ tkCells t := fun t => by simp
    by_cases hk0 : t.kind = 0
    · have n0 : (t.kind == 0) = true := beq_iff_eq.2 hk0
      have hE : R = acc ++ [t] := by rw [← hG'.out, if_pos hk0]
      clear hk0 hG' t2
      go_wp2_with (at_builtin; refine wpList_append_own _ rfl _ _ 29 rfl w.heap.size 33 i0 _ 6 64 Tryd.underlying29 hi hz0 hz1 hz2 rfl (by decide) _ acc.length _ rfl hown4 ⟨w2.heap.size + 1, 0, none⟩ 1 1 (tkCells t) rfl rfl hnews hone (by unfold maxLen; omega) (by omega) (by simp <;> omega) ?_; intro v' w5 hown5 hgrow5 _; have hB6 : Blk w5 w2.heap.size (tkCells t) 33 := (hgrow5.block w2.heap.size (by omega) (fun e => by have := (hown2.lt _ e.symm).2; omega)).trans B5; have c0 := hB6.cell 0 _ rfl; have c2 := hB6.cell 2 _ rfl)
      have hbl5 : Below w.heap.size w w5 := hbl4.grown hgrow5 (by omega) (fun j hj => (hown2.lt j hj).1)
      go_ret
      rcases hown5.2 with ⟨_, hx0⟩ | ⟨g, cp, cur, hv, hg, hh, hn1, hn2, _, _⟩
      · omega
      · have hll : R.length = acc.length + 1 := by rw [hE, List.length_append]; rfl
        have hfm : R.flatMap tkCells = acc.flatMap tkCells ++ tkCells t := by rw [hE]; exact hlA t
        subst hv
        refine ⟨some ⟨g, 0, none⟩, cp, by rw [hll]; rfl, ⟨by rw [hll]; exact hn1, hn2, g, rfl, lt_of_block hh, fun j v hv => ?_⟩, hbl5⟩
        rw [hfm] at hv
        have h0 := hown5.cells (g := g) rfl j v hv
        rw [← h0]; congr 1; unfold Addr.add; simp
    · have n0 : (t.kind == 0) = false := beq_eq_false_iff_ne.2 hk0
      obtain ⟨t3, t4⟩ := t2 hk0
      have hG2 : Hid (allGo f l t.to (acc ++ [t]) = R) := Lib.hid (by rw [← hG'.out, if_neg hk0])
      clear hk0 hG' t2
      go_wp2_with (at_builtin; refine wpList_append_own _ rfl _ _ 29 rfl w.heap.size 33 i0 _ 6 64 Tryd.underlying29 hi hz0 hz1 hz2 rfl (by decide) _ acc.length _ rfl hown4 ⟨w2.heap.size + 1, 0, none⟩ 1 1 (tkCells t) rfl rfl hnews hone (by unfold maxLen; omega) (by omega) (by simp <;> omega) ?_; intro v' w5 hown5 hgrow5 _; have hB6 : Blk w5 w2.heap.size (tkCells t) 33 := (hgrow5.block w2.heap.size (by omega) (fun e => by have := (hown2.lt _ e.symm).2; omega)).trans B5; have c0 := hB6.cell 0 _ rfl; have c2 := hB6.cell 2 _ rfl)
      have hbl5 : Below w.heap.size w w5 := hbl4.grown hgrow5 (by omega) (fun j hj => (hown2.lt j hj).1)
      go_roundw
      case rel => exact ⟨f, t.to, acc ++ [t], by go_num, by rw [hlA, List.length_append]; exact hown5, hG2, by omega, by omega, by rw [List.length_append]; simp; omega, hbl5⟩
      case measure => simp [intOf]; omega


theorem prep_pre (zs : List Int) : Pre (prepF zs) := by
  have key : ∀ k, ∀ z ∈ prepTo zs k, 1 ≤ z ∧ z < 1114112 := by
    intro k
    induction k with
    | zero => intro z hz; simp [prepTo] at hz
    | succ k ih =>
      intro z hz
      rw [prepTo] at hz
      rcases List.mem_append.1 hz with h | h
      · exact ih z h
      · rcases prep_cases zs k with ⟨_, _, _, HP⟩ | ⟨_, _, HP⟩ | ⟨_, _, _, HP⟩ | ⟨_, HP⟩ | ⟨_, HP⟩ | ⟨e1, e2, e3, HP⟩
        all_goals rw [HP] at h; simp at h
        all_goals try (subst h; omega)
        subst h
        have h1 := right_bd (charOf_right (zs[k]?.getD 0))
        have h2 : charOf (zs[k]?.getD 0) ≠ 0 := by
          unfold charOf
          split
          · exact e3
          · decide
        omega
  exact key _
theorem chars_len (zs : List Int) : (charsF zs).length ≤ zs.length := by
  have key : ∀ f k, (charsN f zs k).length ≤ f := by
    intro f
    induction f with
    | zero => intro k; simp [charsN]
    | succ f ih =>
      intro k
      rw [charsN]
      split
      · simp
      · rw [List.length_append]
        have := ih (k + sizeF (zs.drop k))
        have h1 : (if charF (zs.drop k) ≠ 65279 ∨ k ≠ 0 then [charF (zs.drop k)] else []).length ≤ 1 := by split <;> simp
        omega
  have := key (zs.length - 0) 0
  exact this
theorem chars_i64 (zs : List Int) (hz : U8 zs) : I64 (charsF zs) := by
  have key : ∀ f k, I64 (charsN f zs k) := by
    intro f
    induction f with
    | zero => intro k z hz; simp [charsN] at hz
    | succ f ih =>
      intro k z h
      rw [charsN] at h
      split at h
      · simp at h
      · rcases List.mem_append.1 h with h | h
        · split at h
          · simp at h
            have := readF_char (zs.drop k) (hz.drop k)
            subst h
            unfold charF
            split
            · omega
            · decide
          · simp at h
        · exact ih _ z h
  exact key _ _

set_option maxRecDepth 100000 in
set_option maxHeartbeats 2000000 in
theorem tread_any (a : Option Addr) (n cap : Nat) (zs : List Int) (w : World) (hn : zs.length = n) (hr : Reads w .u8 a cap zs) (hz : U8 zs) (hsm : n ≤ 100000) (hT : TkW w) :
    Calls Tryd.prog 11 #[.slice a n cap] w (TksPost (toksF zs) w) := by
  subst hn
  have hc := chars_any a cap zs w hr hz (by omega)
  have hcl := chars_len zs
  have hci := chars_i64 zs hz
  have HT := Lib.hid hT
  unfold toksF
  unfold CharsPost at hc
  clear hT hr
  generalize charsF zs = cs at *
  go_enter Tryd.func11, Tryd.ntmps11
  go_wp2_with fail
  refine hc.mono ?_
  rintro e w1 ⟨a1, c1, rfl, hr1, hb1, _, _⟩
  have cP := prepare_any a1 c1 cs.length cs w1 rfl hr1 hci (by omega)
  have hpl := prepTo_len cs cs.length
  have hpp := prep_pre cs
  have hpl : (prepF cs).length ≤ cs.length := hpl
  unfold NewPost at cP
  generalize prepF cs = l at *
  clear hc hr1 hci hz
  go_wp2_with fail
  refine cP.mono ?_
  rintro e w2 ⟨a2, c2, rfl, hr2, hb2, _, _⟩
  have hb12 := below_trans hb1 hb2
  have cA := all_any (a := a2) (cap := c2) (⟨hr2, rfl, hpp, by omega⟩ : Src w2 a2 l.length c2 l) (HT.out.later hb12)
  clear cP hr2 hpp
  go_wp2_with fail
  refine cA.mono ?_
  rintro e w3 ⟨a3, c3, rfl, hr3, hb3⟩
  go_wp2
  go_ret
  exact ⟨a3, c3, rfl, hr3, below_trans hb12 hb3⟩
end Go.Proofs.YtoepldjjoeidoaaDoor
