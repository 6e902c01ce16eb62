/- Texts of mine in one: Rx1. -/
import Derived.Test.YtcfhggdiccilaaaGreatQ27
import Derived.Test.YtcfhggdiccilaaaGreatQ08
import Derived.Test.YtcfhggdiccilaaaGreatQ06
namespace Go.Proofs.YtcfhggdiccilaaaGreat
section
open Go.RowKit
set_option maxRecDepth 100000 in
set_option maxHeartbeats 4000000 in
theorem rall_plain {b off n cap : Nat} {l : List Int} {w : World} (h : Src w (some ⟨b, off, none⟩) n cap l) (hp : PlainL l) :
    Calls Tryz.prog 38 #[.slice (some ⟨b, off, none⟩) n cap] w (TksPost (allF l) w) := by
  obtain ⟨i0, hi, hz0, hz1, hz2⟩ := info_parts Tryz.infoTok
  have hlen := h.len
  have hsm := h.small
  have own0 := World.ownsRow_made (base := w.heap.size) (e := 93) (size := 6) w #[] 0 (Nat.le_refl _) (by simp [maxLen]) (by simp)
  generalize hR : allF l = R
  unfold allF at hR
  rw [hlen] at hR
  have HR := Lib.hid hR; clear hR
  have HL := Lib.hid hlen; clear hlen
  have HP := Lib.hid h; clear h
  have HQ := Lib.hid hp; clear hp
  go_enter Tryz.func38, Tryz.ntmps38
  go_wp2_with fail
  go_loopw [3, 4] (fun v at_ wr => ∃ (f j : Nat) (acc : List Tk), at_ = .int .i64 j ∧ wr.ownsRow w.heap.size 93 6 v acc.length (acc.flatMap tkCells) ∧ Hid (allGo f l j acc = R) ∧ n < j + f ∧ j ≤ n ∧ acc.length ≤ j ∧ Below w.heap.size w wr)
    (fun _ at_ _ => n - (intOf at_).toNat)
  case atStart => exact ⟨n + 1, 0, [], rfl, own0, HR, by omega, by omega, by simp, (Below.refl _ w).alloc (Nat.le_refl _) _⟩
  case round =>
    obtain ⟨f, j, acc, rfl, hown, hG, hf, hj, hal, hbl⟩ := hrel
    have hS := HP.out.later hbl
    obtain ⟨f, rfl⟩ : ∃ g, f = g + 1 := ⟨f - 1, by omega⟩
    obtain ⟨t1, t2⟩ := plain_to HQ.out j (by rw [HL.out]; exact hj)
    rw [HL.out] at t1 t2
    have hx := rnext_plain (j : Int) j hS rfl hj HQ.out
    have hG' : Hid ((if (nextF l j).kind = 0 then acc ++ [nextF l j] else allGo f l (nextF l j).to (acc ++ [nextF l j])) = R) := Lib.hid (by rw [← hG.out]; rfl)
    clear hG
    generalize nextF l j = t at *
    go_wp2_with fail
    refine hx.mono ?_
    rintro e w2 ⟨rfl, hb2⟩
    have hown2 := owns_later hown hb2
    have hbl2 := hbl.trans (hb2.mono hbl.size)
    have hsz2 := hbl2.size
    have hsz := hbl.size
    clear hown hx hS
    have hA : ∀ o : Obj, (w2.alloc o).heap.size = w2.heap.size + 1 := fun o => by simp
    have hB := Blk.alloc (w := w2.alloc (.cells (tkCells t).toArray 93)) (tkCells t) 93
    rw [hA] at hB
    have hnews : ∀ j u, (tkCells t)[j]? = some u → ((w2.alloc (.cells (tkCells t).toArray 93)).alloc (.cells (tkCells t).toArray 93)).cell? ((⟨w2.heap.size + 1, 0, none⟩ : Addr).add j) = some u := fun j u hu => by
      have h0 := hB.cell j u hu
      rw [← h0]; congr 1; unfold Addr.add; simp <;> (intro h; exact h.symm)
    have hown4 := (hown2.alloc (.cells (tkCells t).toArray 93)).alloc (.cells (tkCells t).toArray 93)
    have hbl4 := (hbl2.alloc hsz2 (.cells (tkCells t).toArray 93)).alloc (by rw [hA]; omega) (.cells (tkCells t).toArray 93)
    have B5 : Blk ((w2.alloc (.cells (tkCells t).toArray 93)).alloc (.cells (tkCells t).toArray 93)) w2.heap.size (tkCells t) 93 := (Blk.alloc _ _).alloc_old _
    have hone := tk_cells t
    have hz4 : ((w2.alloc (.cells (tkCells t).toArray 93)).alloc (.cells (tkCells t).toArray 93)).heap.size = w2.heap.size + 2 := by simp
    unfold tkV
    rw [show (tkCells t).toArray = #[.int .i64 t.kind, .int .i64 t.frm, .int .i64 t.to, .string (strOfNums t.text), .string (strOfNums t.num), .bool t.whole] from rfl] at *
    have hlA : ∀ t : Tk, (acc ++ [t]).flatMap tkCells = acc.flatMap tkCells ++ tkCells t := fun t => by simp
    by_cases hk0 : t.kind = 0
    · have n0 : (t.kind == 0) = true := beq_iff_eq.2 hk0
      have hE : R = acc ++ [t] := by rw [← hG'.out, if_pos hk0]
      clear hk0 hG' t1 t2
      go_wp2_with (at_builtin; refine wpList_append_own _ rfl _ _ 66 rfl w.heap.size 93 i0 _ 6 64 Tryz.underlying66 hi hz0 hz1 hz2 rfl (by decide) _ acc.length _ rfl hown4 ⟨w2.heap.size + 1, 0, none⟩ 1 1 (tkCells t) rfl rfl hnews hone (by unfold maxLen; omega) (by omega) (by simp <;> omega) ?_; intro v' w5 hown5 hgrow5 _; have hB6 : Blk w5 w2.heap.size (tkCells t) 93 := (hgrow5.block w2.heap.size (by omega) (fun e => by have := (hown2.lt _ e.symm).2; omega)).trans B5; have c0 := hB6.cell 0 _ rfl; have c2 := hB6.cell 2 _ rfl)
      have hbl5 : Below w.heap.size w w5 := hbl4.grown hgrow5 (by omega) (fun j hj => (hown2.lt j hj).1)
      go_ret
      rcases hown5.2 with ⟨_, hx0⟩ | ⟨g, cp, cur, hv, hg, hh, hn1, hn2, _, _⟩
      · omega
      · have hll : R.length = acc.length + 1 := by rw [hE, List.length_append]; rfl
        have hfm : R.flatMap tkCells = acc.flatMap tkCells ++ tkCells t := by rw [hE]; exact hlA t
        subst hv
        refine ⟨some ⟨g, 0, none⟩, cp, by rw [hll]; rfl, ⟨by rw [hll]; exact hn1, hn2, g, rfl, lt_of_block hh, fun j v hv => ?_⟩, hbl5⟩
        rw [hfm] at hv
        have h0 := hown5.cells (g := g) rfl j v hv
        rw [← h0]; congr 1; unfold Addr.add; simp
    · have n0 : (t.kind == 0) = false := beq_eq_false_iff_ne.2 hk0
      obtain ⟨t3, t4⟩ := t2 hk0
      have hG2 : Hid (allGo f l t.to (acc ++ [t]) = R) := Lib.hid (by rw [← hG'.out, if_neg hk0])
      clear hk0 hG' t1 t2
      go_wp2_with (at_builtin; refine wpList_append_own _ rfl _ _ 66 rfl w.heap.size 93 i0 _ 6 64 Tryz.underlying66 hi hz0 hz1 hz2 rfl (by decide) _ acc.length _ rfl hown4 ⟨w2.heap.size + 1, 0, none⟩ 1 1 (tkCells t) rfl rfl hnews hone (by unfold maxLen; omega) (by omega) (by simp <;> omega) ?_; intro v' w5 hown5 hgrow5 _; have hB6 : Blk w5 w2.heap.size (tkCells t) 93 := (hgrow5.block w2.heap.size (by omega) (fun e => by have := (hown2.lt _ e.symm).2; omega)).trans B5; have c0 := hB6.cell 0 _ rfl; have c2 := hB6.cell 2 _ rfl)
      have hbl5 : Below w.heap.size w w5 := hbl4.grown hgrow5 (by omega) (fun j hj => (hown2.lt j hj).1)
      go_roundw
      case rel => exact ⟨f, t.to, acc ++ [t], by go_num, by rw [hlA, List.length_append]; exact hown5, hG2, by omega, by omega, by rw [List.length_append]; simp; omega, hbl5⟩
      case measure => simp [intOf]; omega
set_option maxRecDepth 100000 in
set_option maxHeartbeats 2000000 in
theorem rread_plain (a : Option Addr) (n cap : Nat) (zs l : List Int) (w : World) (hn : zs.length = n) (hr : Reads w .u8 a cap zs) (hz : U8 zs) (hsm : n ≤ 100000) (hcs : (charsF zs).length ≤ 100000) (hci : I64 (charsF zs)) (hpl : prepF (charsF zs) = l) (hp : PlainL l) (hne : l ≠ []) (hll : l.length ≤ 100000) :
    Calls Tryz.prog 24 #[.slice a n cap] w (TksPost (toksF zs) w) := by
  subst hn
  have hc := refChars_any a cap zs w hr hz (by omega)
  have hT : toksF zs = allF l := by unfold toksF; rw [hpl]
  rw [hT]
  generalize hG : charsF zs = cs at *
  go_enter Tryz.func24, Tryz.ntmps24
  go_wp2_with fail
  refine hc.mono ?_
  rintro e w1 ⟨a1, c1, rfl, hr1, hb1, _⟩
  rw [hG] at hr1 ⊢
  have HGG := Lib.hid hG; clear hG
  go_wp2_with fail
  refine (refPrepare_any a1 c1 cs.length cs w1 rfl hr1 hci hcs).mono ?_
  rintro e w2 ⟨a2, c2, rfl, hr2, hb2, _⟩
  rw [hpl] at hr2 ⊢
  obtain ⟨b2, o2, rfl, _⟩ := hr2.2.2.resolve_left hne
  have hS : Src w2 (some ⟨b2, o2, none⟩) l.length c2 l := ⟨hr2, rfl, hp.pre, hll⟩
  go_wp2_with fail
  refine (rall_plain hS hp).mono ?_
  rintro e w3 ⟨a3, c3, rfl, hr3, hb3⟩
  go_wp2
  go_ret
  exact ⟨a3, c3, rfl, hr3, (hb1.trans (hb2.mono hb1.size)).trans (hb3.mono (Nat.le_trans hb1.size hb2.size))⟩
end
end Go.Proofs.YtcfhggdiccilaaaGreat
