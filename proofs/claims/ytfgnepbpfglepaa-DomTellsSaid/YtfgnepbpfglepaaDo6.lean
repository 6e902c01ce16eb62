/- The tree of a document: New's walk. -/
import Derived.Test.YtfgnepbpfglepaaDo5
import Derived.Deep.CutRange
namespace Go.Proofs.Ytfgnepbpfglepaa
open Go.RowKit
set_option linter.unusedVariables false
set_option linter.unusedSimpArgs false

/-- A tree while it is made: its document, and the row of those ahead. -/
structure TreeB (w : World) (B Q t b r n : Nat) (ds : List Value) (xs : List Nd) : Prop where
  cells : Blk w t [.slice (some ⟨b, 0, none⟩) n n, .slice (some ⟨r, 0, none⟩) n n] 63
  doc : RdN (fun bl => B ≤ bl ∧ bl < Q ∧ bl ≠ t ∧ bl ≠ r) w (some ⟨b, 0, none⟩) n n xs
  row : Blk w r ds 3
  len : ds.length = n
  ht : B ≤ t ∧ t < Q
  hr : B ≤ r ∧ r < Q
  hne : t ≠ r
  hb : B ≤ b ∧ b < Q ∧ b ≠ t ∧ b ≠ r
theorem TreeB.move {w w' : World} {B Q t b r n : Nat} {ds : List Value} {xs : List Nd} (h : TreeB w B Q t b r n ds xs) (hm : ∀ bl, bl < Q → w'.heap[bl]? = w.heap[bl]?) : TreeB w' B Q t b r n ds xs :=
  ⟨(hm t h.ht.2).trans h.cells, h.doc.move (fun bl hb => ⟨hb, hm bl hb.2.1⟩), (hm r h.hr.2).trans h.row, h.len, h.ht, h.hr, h.hne, h.hb⟩
theorem TreeB.set {w : World} {B Q t b r n : Nat} {ds : List Value} {xs : List Nd} (h : TreeB w B Q t b r n ds xs) (k : Nat) (v : Value) : TreeB (w.setCell ⟨r, k, none⟩ v) B Q t b r n (ds.set k v) xs :=
  ⟨(heap_set h.hne).trans h.cells, h.doc.move (fun bl hb => ⟨hb, heap_set hb.2.2.2⟩), h.row.setCell k v, by rw [List.length_set]; exact h.len, h.ht, h.hr, h.hne, h.hb⟩

theorem treeA {w w2 : World} {B b n : Nat} {xs : List Nd} (hB : B ≤ w.heap.size) (hg : w.heap.size ≤ b) (hg2 : b < w2.heap.size) (hrd : RdN (fun bl => w.heap.size ≤ bl ∧ bl < w2.heap.size) w2 (some ⟨b, 0, none⟩) n n xs) (hb : w.heap.size ≤ w2.heap.size) (zc : Array Value) :
    ∃ ds, TreeB ((w2.alloc (.cells (madeCells zc n) 3)).alloc (.cells #[.slice (some ⟨b, 0, none⟩) n n, .slice (some ⟨w2.heap.size, 0, none⟩) n n] 63)) B (w2.heap.size + 1 + 1) (w2.heap.size + 1) b w2.heap.size n ds xs := by
  obtain ⟨ds, hl, hD⟩ := made_blk w2 zc n 3
  have hs : (w2.alloc (.cells (madeCells zc n) 3)).heap.size = w2.heap.size + 1 := by simp
  refine ⟨ds, ?_, ?_, hD.alloc_old _, hl, by omega, by omega, by omega, by omega⟩
  · have := Blk.alloc (w := w2.alloc (.cells (madeCells zc n) 3)) [.slice (some ⟨b, 0, none⟩) n n, .slice (some ⟨w2.heap.size, 0, none⟩) n n] 63
    rwa [hs] at this
  · refine hrd.move (fun bl h => ⟨⟨by omega, by omega, by omega, by omega⟩, ?_⟩)
    rw [Below.heap_alloc _ _ _ (by omega), Below.heap_alloc _ _ _ h.2]
theorem treeB {w1 w2 : World} {B b r n : Nat} {xs : List Nd} {ds : List Value} (hl : ds.length = n) (hD : Blk w2 r ds 3) (hr : B ≤ r) (hr2 : r < w1.heap.size) (hg : w1.heap.size ≤ b) (hg2 : b < w2.heap.size) (hrd : RdN (fun bl => w1.heap.size ≤ bl ∧ bl < w2.heap.size) w2 (some ⟨b, 0, none⟩) n n xs) (hb : w1.heap.size ≤ w2.heap.size) :
    TreeB (w2.alloc (.cells #[.slice (some ⟨b, 0, none⟩) n n, .slice (some ⟨r, 0, none⟩) n n] 63)) B (w2.heap.size + 1) w2.heap.size b r n ds xs := by
  refine ⟨Blk.alloc [.slice (some ⟨b, 0, none⟩) n n, .slice (some ⟨r, 0, none⟩) n n] _, ?_, hD.alloc_old _, hl, by omega, by omega, by omega, by omega⟩
  refine hrd.move (fun bl h => ⟨⟨by omega, by omega, by omega, by omega⟩, ?_⟩)
  rw [Below.heap_alloc _ _ _ h.2]

/-- The tree of a document. -/
structure TreeAt (w : World) (B t b r n : Nat) (xs : List Nd) : Prop where
  cells : Blk w t [.slice (some ⟨b, 0, none⟩) n n, .slice (some ⟨r, 0, none⟩) n n] 63
  doc : RdN (fun bl => B ≤ bl ∧ bl < w.heap.size) w (some ⟨b, 0, none⟩) n n xs
  row : ∀ k, k < n → w.cell? ⟨r, k, none⟩ = some (.int .i64 (aheadF xs k))
  ht : B ≤ t
  hr : B ≤ r ∧ r < w.heap.size
theorem TreeAt.later {w w' : World} {B t b r n : Nat} {xs : List Nd} (h : TreeAt w B t b r n xs) (hb : Below w.heap.size w w') : TreeAt w' B t b r n xs :=
  ⟨h.cells.later hb h.cells.lt, h.doc.move (fun bl hl => ⟨⟨hl.1, Nat.lt_of_lt_of_le hl.2 hb.size⟩, hb.block bl hl.2⟩), fun k hk => (hb.cell (p := ⟨r, k, none⟩) h.hr.2).trans (h.row k hk), h.ht, h.hr.1, Nat.lt_of_lt_of_le h.hr.2 hb.size⟩
theorem new_a {w w1 w2 : World} {b n : Nat} {xs : List Nd} (hb1 : Below w.heap.size w w1) (hg1 : w1.drew.heap.size ≤ b) (hg2 : b < w2.heap.size) (hrd : RdN (fun bl => w1.drew.heap.size ≤ bl ∧ bl < w2.heap.size) w2 (some ⟨b, 0, none⟩) n n xs) (hb2 : Below w1.drew.heap.size w1.drew w2) :
    ∃ (t b' r : Nat) (ds : List Value), Value.pointer (some ⟨w2.heap.size + 1, 0, none⟩) = .pointer (some ⟨t, 0, none⟩) ∧ TreeB ((w2.alloc (.cells (madeCells #[.int .i64 0] n) 3)).alloc (.cells #[.slice (some ⟨b, 0, none⟩) n n, .slice (some ⟨w2.heap.size, 0, none⟩) n n] 63)) w.heap.size ((w2.alloc (.cells (madeCells #[.int .i64 0] n) 3)).alloc (.cells #[.slice (some ⟨b, 0, none⟩) n n, .slice (some ⟨w2.heap.size, 0, none⟩) n n] 63)).heap.size t b' r n ds xs ∧
      Below w.heap.size w ((w2.alloc (.cells (madeCells #[.int .i64 0] n) 3)).alloc (.cells #[.slice (some ⟨b, 0, none⟩) n n, .slice (some ⟨w2.heap.size, 0, none⟩) n n] 63)) := by
  obtain ⟨ds, hT⟩ := treeA (w := w1.drew) (B := w.heap.size) hb1.drew.size hg1 hg2 hrd hb2.size #[.int .i64 0]
  have h2 := hb1.drew.trans (hb2.mono hb1.drew.size)
  have h3 := h2.alloc h2.size (.cells (madeCells #[.int .i64 0] n) 3)
  refine ⟨_, b, w2.heap.size, ds, rfl, ?_, h3.alloc h3.size _⟩
  have hz : ((w2.alloc (.cells (madeCells #[.int .i64 0] n) 3)).alloc (.cells #[.slice (some ⟨b, 0, none⟩) n n, .slice (some ⟨w2.heap.size, 0, none⟩) n n] 63)).heap.size = w2.heap.size + 1 + 1 := by simp
  rw [hz]
  exact hT
theorem new_b {w w1 w2 : World} {b n : Nat} {xs : List Nd} (hb1 : Below w.heap.size w w1) (hg1 : (w1.alloc (.cells (madeCells #[.int .i64 0] n) 3)).drew.heap.size ≤ b) (hg2 : b < w2.heap.size) (hrd : RdN (fun bl => (w1.alloc (.cells (madeCells #[.int .i64 0] n) 3)).drew.heap.size ≤ bl ∧ bl < w2.heap.size) w2 (some ⟨b, 0, none⟩) n n xs) (hb2 : Below (w1.alloc (.cells (madeCells #[.int .i64 0] n) 3)).drew.heap.size (w1.alloc (.cells (madeCells #[.int .i64 0] n) 3)).drew w2) :
    ∃ (t b' r : Nat) (ds : List Value), Value.pointer (some ⟨w2.heap.size, 0, none⟩) = .pointer (some ⟨t, 0, none⟩) ∧ TreeB (w2.alloc (.cells #[.slice (some ⟨b, 0, none⟩) n n, .slice (some ⟨w1.heap.size, 0, none⟩) n n] 63)) w.heap.size (w2.alloc (.cells #[.slice (some ⟨b, 0, none⟩) n n, .slice (some ⟨w1.heap.size, 0, none⟩) n n] 63)).heap.size t b' r n ds xs ∧
      Below w.heap.size w (w2.alloc (.cells #[.slice (some ⟨b, 0, none⟩) n n, .slice (some ⟨w1.heap.size, 0, none⟩) n n] 63)) := by
  obtain ⟨ds, hl, hD⟩ := made_blk w1 #[.int .i64 0] n 3
  have hs : (w1.alloc (.cells (madeCells #[.int .i64 0] n) 3)).drew.heap.size = w1.heap.size + 1 := by show (w1.alloc (.cells (madeCells #[.int .i64 0] n) 3)).heap.size = _; simp
  have h1 := (hb1.alloc hb1.size (.cells (madeCells #[.int .i64 0] n) 3)).drew
  have h2 := h1.trans (hb2.mono h1.size)
  have hz : (w2.alloc (.cells #[.slice (some ⟨b, 0, none⟩) n n, .slice (some ⟨w1.heap.size, 0, none⟩) n n] 63)).heap.size = w2.heap.size + 1 := by simp
  have hT := treeB (B := w.heap.size) (r := w1.heap.size) hl ((hD.drewN 1).later hb2 (by omega)) hb1.size (by omega) hg1 hg2 hrd hb2.size
  refine ⟨_, b, w1.heap.size, ds, rfl, ?_, h2.alloc h2.size _⟩
  rw [hz]
  exact hT
def NewP (xs : List Nd) (n : Nat) (w : World) (e : Ending) (w' : World) : Prop := ∃ t b r, e = .returned (.tuple #[.pointer (some ⟨t, 0, none⟩), .nilIface]) ∧ TreeAt w' w.heap.size t b r n xs ∧ Below w.heap.size w w'

set_option maxRecDepth 100000 in
set_option maxHeartbeats 4000000 in
theorem new_any (xs : List Nd) (a : Option Addr) (n c : Nat) (w : World) (hx : RdN (· < w.heap.size) w a n c xs) (hn : n ≤ 1000000) (hsm : ∀ x ∈ xs, x.attrs.length ≤ 1000000 ∧ x.states.length ≤ 1000000) (hR : ∀ (k : Nat) (x : Nd), xs[k]? = some x → x.kind = 1 → x.par = -1 ∨ (0 ≤ x.par ∧ x.par < n))
    (hC : Calls Try.prog 33 #[.slice a n c] w (Told .nilIface w)) :
    Calls Try.prog 13 #[.slice a n c] w (NewP xs n w) := by
  have hmk := make_any 37 3 _ 1 8 Try.underlying37 TryinfoIntR n (by omega) (by omega)
  have HX := Lib.hid (fun w' (hb : Below w.heap.size w w') => hx.later hb (Nat.le_refl _))
  have HF := Lib.hid (fun w' (hb : Below w.heap.size w w') => copiedN_any xs a n c w' (HX.out w' hb) hn hsm)
  have HM := Lib.hid hmk
  have HRP := Lib.hid hR
  clear hx hsm hmk hR
  go_enter Try.func13, Try.ntmps13
  go_wp2_with fail
  refine hC.mono ?_
  rintro e1 w1 ⟨rfl, hb1⟩
  clear hC
  have hmk := HM.out
  have fC := HF.out w1.drew hb1.drew
  have hbm := (hb1.alloc hb1.size (.cells (madeCells #[Value.int .i64 0] n) 3)).drew
  have fD := HF.out _ hbm
  go_wp2_with fail
  go_cut [5] from 14 to 20 (fun s5 wx => ∃ (t b r : Nat) (ds : List Value), s5 = .pointer (some ⟨t, 0, none⟩) ∧ TreeB wx w.heap.size wx.heap.size t b r n ds xs ∧ Below w.heap.size w wx)
  case first =>
    go_region_with ((go_at_call 34; (with_reducible (first | refine fC.mono ?_ | refine fD.mono ?_)); rintro e w2 ⟨b, rfl, hg1, hg2, hrd, hb2⟩))
    all_goals (go_wp2_with fail; go_meet; first | exact new_a hb1 hg1 hg2 hrd hb2 | exact new_b hb1 hg1 hg2 hrd hb2)
  case rest =>
    obtain ⟨t, b, r, ds, rfl, hT, hbc⟩ := hcut
    have hQ : Hid (wc.heap.size = wc.heap.size) := Lib.hid rfl
    have hbx := hbc.alloc hbc.size (.cells #[.int .i64 (-1)] 3)
    have hR1 := repeat_any n wc.heap.size hn (wc.alloc (.cells #[.int .i64 (-1)] 3)) (Blk.alloc [.int .i64 (-1)] _)
    have HT := Lib.hid hT
    have HBX := Lib.hid hbx
    clear hmk fC fD hbm hb1 hT hbc
    go_wp2_with fail
    refine hR1.mono ?_
    rintro e2 w2 ⟨q, ls0, rfl, hq, hBq, hlq, hls, hb2⟩
    have hT2 : TreeB w2 w.heap.size wc.heap.size t b r n ds xs := HT.out.move (fun bl hb => by rw [hb2.block bl (by simp; omega), Below.heap_alloc _ _ _ hb])
    have hbw2 := HBX.out.trans (hb2.mono HBX.out.size)
    have hqc : wc.heap.size < q := by simp at hq; omega
    have HT2 := Lib.hid hT2
    have HBQ := Lib.hid hBq
    have HLQ := Lib.hid hlq
    have HLS := Lib.hid hls
    have HW2 := Lib.hid hbw2
    clear hT2 hBq hlq hls hbw2 hb2 hR1 hq HBX HT hQ
    have htr := HT2.out.hne
    have hrl := HT2.out.hr.2
    have htl := HT2.out.ht.2
    go_wp2_with fail
    go_loopw [27] (fun i wr => ∃ (k : Nat) (ds ls : List Value), k ≤ n ∧ i = .int .i64 k ∧ Hid (TreeB wr w.heap.size wc.heap.size t b r n ds xs) ∧ Hid (Blk wr q ls 3) ∧ Hid (ls.length = n) ∧ Hid (∀ j, j < k → ds[j]? = some (.int .i64 (aheadF xs j))) ∧ Hid (∀ p : Nat, p < n → ls[p]? = some (.int .i64 (lastB xs (p : Int) k))) ∧ Hid (Below w.heap.size w wr)) (fun i _ => n - (intOf i).toNat)
    case atStart => exact ⟨0, ds, ls0, Nat.zero_le _, rfl, HT2, HBQ, HLQ, Lib.hid (fun j hj => by omega), Lib.hid (fun p hp => HLS.out p hp), HW2⟩
    case round =>
      obtain ⟨k, ds, ls, hk, rfl, HT, HBq, HLq, HDS, HLS, HW⟩ := hrel
      clear HT2 HBQ HLQ HW2
      by_cases hlt : k < n
      · have HXr := HX.out wr HW.out
        obtain ⟨x, hxk⟩ : ∃ x, xs[k]? = some x := ⟨_, List.getElem?_eq_getElem (by rw [← HXr.1]; exact hlt)⟩
        obtain ⟨b0, off, rfl, hb0, x0, x1, x2, x3, ⟨a1, n1, c1, x4, hA1⟩, ⟨a2, n2, c2, x5, hS1⟩, x6, hz0, hz1, hz2⟩ := HXr.at k x hxk
        have hrx := HRP.out k x hxk
        have HXK := Lib.hid hxk
        have hkI : (0 : Int) ≤ (k : Int) := by omega
        have hkI2 : (k : Int) < (n : Int) := by omega
        have hml : n ≤ 9223372036854775807 := by omega
        have hqw := HBq.out.lt
        have hQw : wc.heap.size ≤ wr.heap.size := by have := HT.out.row.lt; omega
        obtain ⟨W1, hW1⟩ : ∃ W1, wr.alloc (.cells #[.int .i64 x.par, .int .i64 x.kind, .string x.space, .string x.name, .slice a1 n1 c1, .slice a2 n2 c2, .string x.text] 44) = W1 := ⟨_, rfl⟩
        have T1 : TreeB W1 w.heap.size wc.heap.size t b r n ds xs := by rw [← hW1]; exact HT.out.move (fun bl hb => Below.heap_alloc _ _ _ (by omega))
        have Bq1 : Blk W1 q ls 3 := by rw [← hW1]; exact HBq.out.alloc_old _
        have Bc1 : Blk W1 wr.heap.size [.int .i64 x.par, .int .i64 x.kind, .string x.space, .string x.name, .slice a1 n1 c1, .slice a2 n2 c2, .string x.text] 44 := by rw [← hW1]; exact Blk.alloc _ _
        have hb1 : Below w.heap.size w W1 := by rw [← hW1]; exact HW.out.alloc HW.out.size _
        obtain ⟨W2, hW2⟩ : ∃ W2, W1.setCell ⟨r, k, none⟩ (.int .i64 (-1)) = W2 := ⟨_, rfl⟩
        have T2 : TreeB W2 w.heap.size wc.heap.size t b r n (ds.set k (.int .i64 (-1))) xs := by rw [← hW2]; exact T1.set k _
        have Bq2 : Blk W2 q ls 3 := by rw [← hW2]; exact Bq1.kept (grown_setCell _ r k _) (by intro h; have := Option.some.inj h; omega)
        have Bc2 : Blk W2 wr.heap.size [.int .i64 x.par, .int .i64 x.kind, .string x.space, .string x.name, .slice a1 n1 c1, .slice a2 n2 c2, .string x.text] 44 := by rw [← hW2]; exact Bc1.kept (grown_setCell _ r k _) (by intro h; have := Option.some.inj h; omega)
        have hb2 : Below w.heap.size w W2 := by rw [← hW2]; exact hb1.setCell (p := ⟨r, k, none⟩) HT.out.hr.1 _
        have hkd : k < ds.length := by rw [HT.out.len]; exact hlt
        obtain ⟨od, hod⟩ : ∃ o, ds[k]? = some o := ⟨_, List.getElem?_eq_getElem hkd⟩
        have t1 := T1.cells.cell 1 _ rfl
        have r1 := T1.row.cell k _ hod
        have f1 := T1.row.frozen k
        have m0 := Bc2.cell 0 _ rfl
        have m1 := Bc2.cell 1 _ rfl
        have HT2 := Lib.hid T2
        have HB2 := Lib.hid Bq2
        have HC2 := Lib.hid Bc2
        have HW2 := Lib.hid hb2
        have HKD := Lib.hid hkd
        clear T1 Bq1 Bc1 hb1 T2 Bq2 Bc2 hb2 hod hkd hxk hA1 hS1 HXr
        by_cases hc : x.kind = 1 ∧ x.par ≠ -1
        · obtain ⟨hk1, hp1⟩ := hc
          obtain ⟨p, hp⟩ : ∃ p : Nat, x.par = (p : Int) := ⟨x.par.toNat, by have := (hrx hk1).resolve_left hp1; omega⟩
          have hpn : p < n := by have := (hrx hk1).resolve_left hp1; omega
          have HAH : Hid (aheadF xs k = lastB xs (p : Int) k) := Lib.hid (by
            unfold aheadF
            rw [HXK.out]
            simp only
            rw [if_pos ⟨hk1, hp1⟩, hp])
          have HEND : Hid (∀ p' : Nat, p' < n → (ls.set p (.int .i64 (k : Int)))[p']? = some (.int .i64 (lastB xs (p' : Int) (k + 1)))) := Lib.hid (fun p' hp' => by
            rw [lastB_succ]
            by_cases he : p' = p
            · subst he
              rw [List.getElem?_set_self (by rw [HLq.out]; exact hp'), if_pos]
              rw [← hp]
              exact hit_of HXK.out hk1
            · rw [List.getElem?_set_ne (by omega), if_neg]
              · exact HLS.out p' hp'
              · intro h
                obtain ⟨y, hy, h1, h2⟩ := hit_elim h
                rw [HXK.out] at hy
                cases hy
                omega)
          have hLV := HLS.out p hpn
          generalize hlv : lastB xs (p : Int) k = lv at *
          have HLV := Lib.hid hlv
          have q1 : (x.kind == 1) = true := beq_iff_eq.2 hk1
          have q2 : (x.par == -1) = false := beq_eq_false_iff_ne.2 hp1
          have hpI : (0 : Int) ≤ (p : Int) := by omega
          have hpI2 : (p : Int) < (n : Int) := by omega
          have HHP := Lib.hid hp
          have D2 : Blk W2 t [.slice (some ⟨b, 0, none⟩) n n, .slice (some ⟨r, 0, none⟩) n n] 63 := HT2.out.cells
          have d1 := D2.cell 1 _ rfl
          have E2 : Blk W2 q ls 3 := HB2.out
          have e1 := E2.cell p _ hLV
          have e2 := E2.frozen p
          have F2 : Blk W2 r (ds.set k (.int .i64 (-1))) 3 := HT2.out.row
          have g1 := F2.cell k (.int .i64 (-1)) (by rw [List.getElem?_set_self HKD.out])
          have g2 := F2.frozen k
          have C2 : Blk W2 wr.heap.size [.int .i64 x.par, .int .i64 x.kind, .string x.space, .string x.name, .slice a1 n1 c1, .slice a2 n2 c2, .string x.text] 44 := HC2.out
          have c0 := C2.cell 0 _ rfl
          rw [hp] at c0 m0 q2
          have hne : ¬ q = r := by omega
          have g3 : (W2.setCell ⟨r, k, none⟩ (.int .i64 lv)).cell? ⟨q, p, none⟩ = some (.int .i64 lv) := (E2.kept (grown_setCell _ r k _) (by intro h; have := Option.some.inj h; omega)).cell p _ hLV
          have g4 : (W2.setCell ⟨r, k, none⟩ (.int .i64 lv)).frozen? ⟨q, p, none⟩ = false := (E2.kept (grown_setCell _ r k _) (by intro h; have := Option.some.inj h; omega)).frozen p
          have HT3 : Hid (TreeB ((W2.setCell ⟨r, k, none⟩ (.int .i64 lv)).setCell ⟨q, p, none⟩ (.int .i64 (k : Int))) w.heap.size wc.heap.size t b r n ((ds.set k (.int .i64 (-1))).set k (.int .i64 lv)) xs) := Lib.hid ((HT2.out.set k _).move (fun bl hb => heap_set (by omega)))
          have HQ3 : Hid (Blk ((W2.setCell ⟨r, k, none⟩ (.int .i64 lv)).setCell ⟨q, p, none⟩ (.int .i64 (k : Int))) q (ls.set p (.int .i64 (k : Int))) 3) := Lib.hid ((E2.kept (grown_setCell _ r k _) (by intro h; have := Option.some.inj h; omega)).setCell p _)
          have HW3 : Hid (Below w.heap.size w ((W2.setCell ⟨r, k, none⟩ (.int .i64 lv)).setCell ⟨q, p, none⟩ (.int .i64 (k : Int)))) := Lib.hid ((HW2.out.setCell (p := ⟨r, k, none⟩) HT.out.hr.1 _).setCell (p := ⟨q, p, none⟩) (by have := HT.out.hr; show w.heap.size ≤ q; omega) _)
          clear hk1 hp1 hrx hp hlv hLV D2 E2 F2 C2
          generalize x.kind = kk at *
          generalize x.par = pp at *
          go_wp2
          go_region
          all_goals
            go_wp2
            go_roundw
            case rel =>
              refine ⟨k + 1, _, _, by omega, by go_num, Lib.hid (HT3.out.move (fun _ _ => rfl)), HQ3, Lib.hid (by rw [List.length_set]; exact HLq.out), Lib.hid (fun j hj => ?_), HEND, Lib.hid HW3.out.drew⟩
              by_cases he : j = k
              · subst he
                rw [List.getElem?_set_self (by rw [List.length_set]; exact HKD.out), HAH.out]
              · rw [List.getElem?_set_ne (by omega), List.getElem?_set_ne (by omega)]
                exact HDS.out j (by omega)
            case measure => simp [intOf]; omega
        · have HEND : Hid ((∀ j, j < k + 1 → (ds.set k (.int .i64 (-1)))[j]? = some (.int .i64 (aheadF xs j))) ∧ (∀ p : Nat, p < n → ls[p]? = some (.int .i64 (lastB xs (p : Int) (k + 1))))) := Lib.hid ⟨fun j hj => by
              by_cases he : j = k
              · subst he
                rw [List.getElem?_set_self HKD.out]
                unfold aheadF
                rw [HXK.out]
                simp only
                rw [if_neg hc]
              · rw [List.getElem?_set_ne (by omega)]
                exact HDS.out j (by omega), fun p hp => by
              rw [lastB_succ, if_neg]
              · exact HLS.out p hp
              · intro h
                obtain ⟨y, hy, h1, h2⟩ := hit_elim h
                rw [HXK.out] at hy
                cases hy
                exact hc ⟨h1, by omega⟩⟩
          have hcb : ((x.kind == 1) = false) ∨ ((x.kind == 1) = true ∧ (x.par == -1) = true) := by
            by_cases h1 : x.kind = 1
            · by_cases h2 : x.par = -1
              · exact .inr ⟨beq_iff_eq.2 h1, beq_iff_eq.2 h2⟩
              · exact absurd ⟨h1, h2⟩ hc
            · exact .inl (beq_eq_false_iff_ne.2 h1)
          clear hc hrx
          generalize x.kind = kk at *
          generalize x.par = pp at *
          rcases hcb with h1 | ⟨h1, h2⟩
          · go_wp2
            go_roundw
            case rel => exact ⟨k + 1, _, ls, by omega, by go_num, HT2, HB2, HLq, Lib.hid HEND.out.1, Lib.hid HEND.out.2, HW2⟩
            case measure => simp [intOf]; omega
          · go_wp2
            go_roundw
            case rel => exact ⟨k + 1, _, ls, by omega, by go_num, HT2, HB2, HLq, Lib.hid HEND.out.1, Lib.hid HEND.out.2, HW2⟩
            case measure => simp [intOf]; omega
      · have hkI : ¬ (k : Int) < (n : Int) := by omega
        obtain rfl : k = n := by omega
        go_wp2
        refine bodyPost_ret (v := .tuple #[.pointer (some ⟨t, 0, none⟩), .nilIface]) (by simp [results, Try.results13, go_sem]) rfl ⟨t, b, r, rfl, ⟨HT.out.cells, HT.out.doc.move (fun bl hb => ⟨⟨hb.1, by have := hb.2.1; have := HBq.out.lt; omega⟩, rfl⟩), fun j hj => HT.out.row.cell j _ (HDS.out j hj), HT.out.ht.1, HT.out.hr.1, HT.out.row.lt⟩, HW.out⟩
end Go.Proofs.Ytfgnepbpfglepaa
