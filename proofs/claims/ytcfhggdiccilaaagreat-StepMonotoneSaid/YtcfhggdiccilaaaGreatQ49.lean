/- Texts of mine in one: Mo0. -/
import Derived.Deep.RegionHeld3
import Derived.Deep.DeepCutAuto
import Derived.Test.YtcfhggdiccilaaaGreatQ47
import Derived.Test.YtcfhggdiccilaaaGreatQ43
import Derived.Test.YtcfhggdiccilaaaGreatQ48
import Derived.Test.YtcfhggdiccilaaaGreatQ01
namespace Go.Proofs.YtcfhggdiccilaaaGreat
section
open Go.RowKit Go.Shelf
set_option linter.unusedVariables false
set_option linter.unusedSimpArgs false
theorem or_close12 {w5 w7 : World} {gX un q1 xn q2 : Nat} {v0 v1 v2 v3 : Value} {p1 p2 : Option Addr} {L1 L2 : List Bool} (hx : Blk w7 gX [v0, v1, v2, v3] 29) (ha : Below w5.heap.size w5 w7) (hg : gX < w5.heap.size) (o1 : BoolsAt (fun b => w5.heap.size ≤ b ∧ b < w7.heap.size) w7 p1 un q1 L1) (o2 : BoolsAt (fun b => w5.heap.size ≤ b ∧ b < w7.heap.size) w7 p2 xn q2 L2) :
    Hid (Blk ((w7.setCell ⟨gX, 1, none⟩ (.slice p1 un q1)).setCell ⟨gX, 2, none⟩ (.slice p2 xn q2)) gX [v0, .slice p1 un q1, .slice p2 xn q2, v3] 29) ∧ Hid (BoolsAt (fun b => w5.heap.size ≤ b ∧ b < ((w7.setCell ⟨gX, 1, none⟩ (.slice p1 un q1)).setCell ⟨gX, 2, none⟩ (.slice p2 xn q2)).heap.size) ((w7.setCell ⟨gX, 1, none⟩ (.slice p1 un q1)).setCell ⟨gX, 2, none⟩ (.slice p2 xn q2)) p1 un q1 L1) ∧ Hid (BoolsAt (fun b => w5.heap.size ≤ b ∧ b < ((w7.setCell ⟨gX, 1, none⟩ (.slice p1 un q1)).setCell ⟨gX, 2, none⟩ (.slice p2 xn q2)).heap.size) ((w7.setCell ⟨gX, 1, none⟩ (.slice p1 un q1)).setCell ⟨gX, 2, none⟩ (.slice p2 xn q2)) p2 xn q2 L2) ∧ Hid (w5.grownBy ((w7.setCell ⟨gX, 1, none⟩ (.slice p1 un q1)).setCell ⟨gX, 2, none⟩ (.slice p2 xn q2)) (some gX)) := by
  have hg7 := grown_write (grown_write (World.grownBy.refl w7 (some gX)) 1 (.slice p1 un q1)) 2 (.slice p2 xn q2)
  have hm : ∀ b, w5.heap.size ≤ b ∧ b < w7.heap.size → (w5.heap.size ≤ b ∧ b < ((w7.setCell ⟨gX, 1, none⟩ (.slice p1 un q1)).setCell ⟨gX, 2, none⟩ (.slice p2 xn q2)).heap.size) ∧ ((w7.setCell ⟨gX, 1, none⟩ (.slice p1 un q1)).setCell ⟨gX, 2, none⟩ (.slice p2 xn q2)).heap[b]? = w7.heap[b]? := fun b hb => ⟨⟨hb.1, Nat.lt_of_lt_of_le hb.2 hg7.size⟩, hg7.block b hb.2 (fun e => by have := Option.some.inj e; omega)⟩
  exact ⟨Lib.hid ((hx.setCell 1 _).setCell 2 _), Lib.hid (o1.move hm), Lib.hid (o2.move hm), Lib.hid (grown_write (grown_write (grown_later (World.grownBy.refl w5 (some gX)) ha) 1 _) 2 _)⟩
theorem or_close21 {w5 w7 : World} {gX un q1 xn q2 : Nat} {v0 v1 v2 v3 : Value} {p1 p2 : Option Addr} {L1 L2 : List Bool} (hx : Blk w7 gX [v0, v1, v2, v3] 29) (ha : Below w5.heap.size w5 w7) (hg : gX < w5.heap.size) (o1 : BoolsAt (fun b => w5.heap.size ≤ b ∧ b < w7.heap.size) w7 p1 un q1 L1) (o2 : BoolsAt (fun b => w5.heap.size ≤ b ∧ b < w7.heap.size) w7 p2 xn q2 L2) :
    Hid (Blk ((w7.setCell ⟨gX, 2, none⟩ (.slice p2 xn q2)).setCell ⟨gX, 1, none⟩ (.slice p1 un q1)) gX [v0, .slice p1 un q1, .slice p2 xn q2, v3] 29) ∧ Hid (BoolsAt (fun b => w5.heap.size ≤ b ∧ b < ((w7.setCell ⟨gX, 2, none⟩ (.slice p2 xn q2)).setCell ⟨gX, 1, none⟩ (.slice p1 un q1)).heap.size) ((w7.setCell ⟨gX, 2, none⟩ (.slice p2 xn q2)).setCell ⟨gX, 1, none⟩ (.slice p1 un q1)) p1 un q1 L1) ∧ Hid (BoolsAt (fun b => w5.heap.size ≤ b ∧ b < ((w7.setCell ⟨gX, 2, none⟩ (.slice p2 xn q2)).setCell ⟨gX, 1, none⟩ (.slice p1 un q1)).heap.size) ((w7.setCell ⟨gX, 2, none⟩ (.slice p2 xn q2)).setCell ⟨gX, 1, none⟩ (.slice p1 un q1)) p2 xn q2 L2) ∧ Hid (w5.grownBy ((w7.setCell ⟨gX, 2, none⟩ (.slice p2 xn q2)).setCell ⟨gX, 1, none⟩ (.slice p1 un q1)) (some gX)) := by
  have hg7 := grown_write (grown_write (World.grownBy.refl w7 (some gX)) 2 (.slice p2 xn q2)) 1 (.slice p1 un q1)
  have hm : ∀ b, w5.heap.size ≤ b ∧ b < w7.heap.size → (w5.heap.size ≤ b ∧ b < ((w7.setCell ⟨gX, 2, none⟩ (.slice p2 xn q2)).setCell ⟨gX, 1, none⟩ (.slice p1 un q1)).heap.size) ∧ ((w7.setCell ⟨gX, 2, none⟩ (.slice p2 xn q2)).setCell ⟨gX, 1, none⟩ (.slice p1 un q1)).heap[b]? = w7.heap[b]? := fun b hb => ⟨⟨hb.1, Nat.lt_of_lt_of_le hb.2 hg7.size⟩, hg7.block b hb.2 (fun e => by have := Option.some.inj e; omega)⟩
  exact ⟨Lib.hid ((hx.setCell 2 _).setCell 1 _), Lib.hid (o1.move hm), Lib.hid (o2.move hm), Lib.hid (grown_write (grown_write (grown_later (World.grownBy.refl w5 (some gX)) ha) 2 _) 1 _)⟩
set_option maxRecDepth 100000 in
set_option maxHeartbeats 8000000 in
theorem lawMono_of (hsp : ∀ w : World, Calls Tryz.prog 4 #[] w (Told (.bool true) w)) {d : Nat} {nm : Nm} {N : NmV} (hok : NmOk nm) {la : Option Addr} {n lc : Nat} {w : World} {ls : List (Lx d)} (hN : NmAt (· < w.heap.size) w N nm) (hx : ListsAt d (· < w.heap.size) w la n lc ls)
    {X : CxV} {up left : List Bool} {cnt : List Int} (hc : CxRd (· < w.heap.size) w X up left cnt) {ta : Option Addr} {tn tc : Nat} {truths : List Bool} (ht : BoolsAt (· < w.heap.size) w ta tn tc truths) {ma : Option Addr} {mn mc : Nat} {more : List Bool} (hm : BoolsAt (· < w.heap.size) w ma mn mc more) :
    Calls Tryz.prog 3 #[.slice la n lc, nmV nm N, X.val, .slice ta tn tc, .slice ma mn mc] w (Told (.bool true) w) := by
  obtain ⟨root, ua, un, uc, xa, xn, xc, ka, kn, kc⟩ := X
  have HUP := Lib.hid hc.up
  have HLE := Lib.hid hc.left
  have HCN := Lib.hid hc.cnt
  have HTR := Lib.hid ht
  have HMO := Lib.hid hm
  have HNN := Lib.hid hN
  have HLS := Lib.hid hx
  have hun : un ≤ 140737488351232 := hc.up.2.2.1.2
  have hxn : xn ≤ 140737488351232 := hc.left.2.2.1.2
  have hkn : kn ≤ 140737488351232 := hc.cnt.2.2.1.2
  have htn : tn ≤ 140737488351232 := ht.2.2.1.2
  have hmn : mn ≤ 140737488351232 := hm.2.2.1.2
  have HSP := Lib.hid hsp
  unfold CxV.val nmV
  dsimp only at *
  have hb1 := (Below.refl w.heap.size w).alloc (Nat.le_refl _) (.cells #[.bool nm.hd, .string nm.df, .slice N.pa N.pn N.pc, .slice N.sa N.sn N.sc] 25)
  have hb2 := hb1.alloc hb1.size (.cells #[.bool root, .slice ua un uc, .slice xa xn xc, .slice ka kn kc] 29)
  have dA := (Blk.alloc (w := w) (T := 25) [.bool nm.hd, .string nm.df, .slice N.pa N.pn N.pc, .slice N.sa N.sn N.sc]).alloc_old (.cells #[.bool root, .slice ua un uc, .slice xa xn xc, .slice ka kn kc] 29)
  have dB := Blk.alloc (w := (w.alloc (.cells #[.bool nm.hd, .string nm.df, .slice N.pa N.pn N.pc, .slice N.sa N.sn N.sc] 25))) (T := 29) [.bool root, .slice ua un uc, .slice xa xn xc, .slice ka kn kc]
  rw [show (w.alloc (.cells #[.bool nm.hd, .string nm.df, .slice N.pa N.pn N.pc, .slice N.sa N.sn N.sc] 25)).heap.size = w.heap.size + 1 from by simp] at dB
  obtain ⟨w0, hw0⟩ : ∃ w0, ((w.alloc (.cells #[.bool nm.hd, .string nm.df, .slice N.pa N.pn N.pc, .slice N.sa N.sn N.sc] 25)).alloc (.cells #[.bool root, .slice ua un uc, .slice xa xn xc, .slice ka kn kc] 29)) = w0 := ⟨_, rfl⟩
  have hsz : w0.heap.size = w.heap.size + 2 := by rw [← hw0]; simp
  rw [hw0] at hb2 dA dB
  have HB := Lib.hid hb2
  have HSZ := Lib.hid hsz
  have DA := Lib.hid dA
  have DB := Lib.hid dB
  have FG := Lib.hid (fun (wx : World) (hb : Below w.heap.size w wx) => show Calls Tryz.prog 5 #[.slice la n lc, .agg #[.bool nm.hd, .string nm.df, .slice N.pa N.pn N.pc, .slice N.sa N.sn N.sc], .int .i64 30] wx (Great14P 30 d ls wx) from great14_any 30 (by omega) (d := d) (nm := nm) (N := N) (w := wx) (la := la) (n := n) (lc := lc) (ls := ls) (HNN.out.move (ok' := (· < wx.heap.size)) (fun b h => ⟨Nat.lt_of_lt_of_le h hb.size, hb.block b h⟩)) hok.df (HLS.out.move (ok' := (· < wx.heap.size)) (fun b h => ⟨Nat.lt_of_lt_of_le h hb.size, hb.block b h⟩)))
  clear hN hx hc ht hm hb1 hb2 dA dB hsz hsp
  go_enter Tryz.func3, Tryz.ntmps3
  go_upto_region 3 with (go_at_call 4; (with_reducible refine (HSP.out _).mono ?_); rintro e w1 ⟨rfl, hb1⟩; have H1 := Lib.hid (HB.out.trans (hb1.mono HB.out.size)); have dA1 := DA.out.later hb1 DA.out.lt; have dB1 := DB.out.later hb1 DB.out.lt; have DA1 := Lib.hid dA1; have DB1 := Lib.hid dB1; clear hb1 dA1 dB1)
  have FG1 := FG.out w1 H1.out
  have z0 := DA1.out.cell 0 _ rfl
  have z1 := DA1.out.cell 1 _ rfl
  have z2 := DA1.out.cell 2 _ rfl
  have z3 := DA1.out.cell 3 _ rfl
  by_cases g0 : 200 < un
  · have q0 : decide ((200 : Int) < (un : Int)) = true := decide_eq_true (by omega)
    go_wp2_with (go_at_call 5; (with_reducible refine FG1.mono ?_); rintro e w2 ⟨bg, rfl, hbg, hb2⟩; have H2 := Lib.hid (H1.out.trans (hb2.mono H1.out.size)); have HBG := Lib.hid hbg; have dB2 := DB1.out.later hb2 DB1.out.lt; have x1 := dB2.cell 1 _ rfl; have x2 := dB2.cell 2 _ rfl; have x3 := dB2.cell 3 _ rfl; have DA2 := Lib.hid (DA1.out.later hb2 DA1.out.lt); have DB2 := Lib.hid dB2; clear hb2 hbg dB2 FG1; cases bg)
    all_goals
      go_ret
      exact ⟨rfl, H2.out⟩
  have q0 : decide ((200 : Int) < (un : Int)) = false := decide_eq_false (by omega)
  by_cases g1 : 200 < xn
  · have q1 : decide ((200 : Int) < (xn : Int)) = true := decide_eq_true (by omega)
    go_wp2_with (go_at_call 5; (with_reducible refine FG1.mono ?_); rintro e w2 ⟨bg, rfl, hbg, hb2⟩; have H2 := Lib.hid (H1.out.trans (hb2.mono H1.out.size)); have HBG := Lib.hid hbg; have dB2 := DB1.out.later hb2 DB1.out.lt; have x1 := dB2.cell 1 _ rfl; have x2 := dB2.cell 2 _ rfl; have x3 := dB2.cell 3 _ rfl; have DA2 := Lib.hid (DA1.out.later hb2 DA1.out.lt); have DB2 := Lib.hid dB2; clear hb2 hbg dB2 FG1; cases bg)
    all_goals
      go_ret
      exact ⟨rfl, H2.out⟩
  have q1 : decide ((200 : Int) < (xn : Int)) = false := decide_eq_false (by omega)
  by_cases g2 : 200 < tn
  · have q2 : decide ((200 : Int) < (tn : Int)) = true := decide_eq_true (by omega)
    go_wp2_with (go_at_call 5; (with_reducible refine FG1.mono ?_); rintro e w2 ⟨bg, rfl, hbg, hb2⟩; have H2 := Lib.hid (H1.out.trans (hb2.mono H1.out.size)); have HBG := Lib.hid hbg; have dB2 := DB1.out.later hb2 DB1.out.lt; have x1 := dB2.cell 1 _ rfl; have x2 := dB2.cell 2 _ rfl; have x3 := dB2.cell 3 _ rfl; have DA2 := Lib.hid (DA1.out.later hb2 DA1.out.lt); have DB2 := Lib.hid dB2; clear hb2 hbg dB2 FG1; cases bg)
    all_goals
      go_ret
      exact ⟨rfl, H2.out⟩
  have q2 : decide ((200 : Int) < (tn : Int)) = false := decide_eq_false (by omega)
  by_cases g3 : 200 < mn
  · have q3 : decide ((200 : Int) < (mn : Int)) = true := decide_eq_true (by omega)
    go_wp2_with (go_at_call 5; (with_reducible refine FG1.mono ?_); rintro e w2 ⟨bg, rfl, hbg, hb2⟩; have H2 := Lib.hid (H1.out.trans (hb2.mono H1.out.size)); have HBG := Lib.hid hbg; have dB2 := DB1.out.later hb2 DB1.out.lt; have x1 := dB2.cell 1 _ rfl; have x2 := dB2.cell 2 _ rfl; have x3 := dB2.cell 3 _ rfl; have DA2 := Lib.hid (DA1.out.later hb2 DA1.out.lt); have DB2 := Lib.hid dB2; clear hb2 hbg dB2 FG1; cases bg)
    all_goals
      go_ret
      exact ⟨rfl, H2.out⟩
  have q3 : decide ((200 : Int) < (mn : Int)) = false := decide_eq_false (by omega)
  by_cases g4 : 200 < kn
  · have q4 : decide ((200 : Int) < (kn : Int)) = true := decide_eq_true (by omega)
    go_wp2_with (go_at_call 5; (with_reducible refine FG1.mono ?_); rintro e w2 ⟨bg, rfl, hbg, hb2⟩; have H2 := Lib.hid (H1.out.trans (hb2.mono H1.out.size)); have HBG := Lib.hid hbg; have dB2 := DB1.out.later hb2 DB1.out.lt; have x1 := dB2.cell 1 _ rfl; have x2 := dB2.cell 2 _ rfl; have x3 := dB2.cell 3 _ rfl; have DA2 := Lib.hid (DA1.out.later hb2 DA1.out.lt); have DB2 := Lib.hid dB2; clear hb2 hbg dB2 FG1; cases bg)
    all_goals
      go_ret
      exact ⟨rfl, H2.out⟩
  have q4 : decide ((200 : Int) < (kn : Int)) = false := decide_eq_false (by omega)
  go_wp2_with (go_at_call 5; (with_reducible refine FG1.mono ?_); rintro e w2 ⟨bg, rfl, hbg, hb2⟩; have H2 := Lib.hid (H1.out.trans (hb2.mono H1.out.size)); have HBG := Lib.hid hbg; have dB2 := DB1.out.later hb2 DB1.out.lt; have x1 := dB2.cell 1 _ rfl; have x2 := dB2.cell 2 _ rfl; have x3 := dB2.cell 3 _ rfl; have DA2 := Lib.hid (DA1.out.later hb2 DA1.out.lt); have DB2 := Lib.hid dB2; clear hb2 hbg dB2 FG1; cases bg)
  · obtain ⟨lt, HLT, HS30, hlt4⟩ : ∃ lt : List (Lx 30), Hid (ListsAt 30 (· < w.heap.size) w la n lc lt) ∧ Hid (∀ l ∈ lt, sizL 30 l ≤ 30) ∧ lt.length ≤ 4 :=
      ⟨ls.map (trim 30 d), Lib.hid (trim_lists HLS.out (HBG.out (by simp)).2), Lib.hid (fun l hl => by obtain ⟨x, hx, rfl⟩ := List.mem_map.1 hl; exact Nat.le_trans (trim_siz 30 d x) ((HBG.out (by simp)).2 x hx)), by rw [List.length_map]; exact (HBG.out (by simp)).1⟩
    clear HBG FG HLS
    go_loopw [56] (fun iv wr => ∃ i : Nat, i ≤ kn ∧ iv = .int .i64 i ∧ wr = w2 ∧ Hid (∀ x ∈ cnt.take i, 0 ≤ x ∧ x ≤ 1099511627776)) (fun iv _ => kn - (intOf iv).toNat)
    case atStart => exact ⟨0, Nat.zero_le _, rfl, rfl, Lib.hid (fun x hx => by simp at hx)⟩
    case round =>
      obtain ⟨i, hi, rfl, rfl, HA⟩ := hrel
      by_cases hlt : i < kn
      · obtain ⟨x, hx⟩ : ∃ x, cnt[i]? = some x := ⟨_, List.getElem?_eq_getElem (by have := HCN.out.1; omega)⟩
        obtain ⟨b, off, rfl, hb, hcx⟩ := HCN.out.at i x hx
        rw [Nat.mul_one] at hcx
        have u0 : wr.cell? ⟨b, off + i, none⟩ = some (.int .i64 x) := (H2.out.cell (p := ⟨b, off + i, none⟩) hb).trans hcx
        have hiI : (0 : Int) ≤ (i : Int) := by omega
        have hiI2 : (i : Int) < (kn : Int) := by omega
        have HTK := Lib.hid (take_snoc hx)
        clear hx hcx hb
        by_cases hx0 : x < 0
        · have qx : decide (x < 0) = true := decide_eq_true hx0
          go_wp2
          go_ret
          exact ⟨rfl, H2.out⟩
        have qx : decide (x < 0) = false := decide_eq_false hx0
        by_cases hx1 : 1099511627776 < x
        · have qy : decide (1099511627776 < x) = true := decide_eq_true hx1
          go_wp2
          go_ret
          exact ⟨rfl, H2.out⟩
        have qy : decide (1099511627776 < x) = false := decide_eq_false hx1
        go_wp2
        go_roundw
        case rel => exact ⟨i + 1, by omega, by go_num, by first | rfl | trivial, Lib.hid (fun y hy => by
          rw [HTK.out] at hy
          rcases List.mem_append.1 hy with hy | hy
          · exact HA.out y hy
          · obtain rfl := List.mem_singleton.1 hy
            omega)⟩
        case measure => simp [intOf]; omega
      · obtain rfl : i = kn := by omega
        have hiI2 : ¬ (i : Int) < (i : Int) := by omega
        have HCB := Lib.hid (show ∀ x ∈ cnt, 0 ≤ x ∧ x ≤ 1099511627776 from fun x hx => HA.out x (by rw [List.take_of_length_le (Nat.le_of_eq HCN.out.1.symm)]; exact hx))
        have HCNT := Lib.hid (show (lt.map (cntL 30)).sum ≤ 1000000 ∧ lt.length ≤ 1000 from by
          refine ⟨?_, by omega⟩
          have h2 : ∀ (l : List (Lx 30)), (∀ x ∈ l, sizL 30 x ≤ 30) → (l.map (cntL 30)).sum ≤ 120 * l.length := by
            intro l
            induction l with
            | nil => intro _; exact Nat.le_refl _
            | cons x r ih =>
              intro hh
              have h3 := ih (fun y hy => hh y (List.mem_cons_of_mem _ hy))
              have h4 := hh x (List.mem_cons_self ..)
              have h5 := cnt_siz 30 x
              rw [List.map_cons, List.sum_cons, List.length_cons]
              omega
          have := h2 lt HS30.out
          omega)
        have fP := plan_any (d := 30) (by omega) hok (HNN.out.move (w' := wr) (ok' := (· < wr.heap.size)) (fun b h => ⟨Nat.lt_of_lt_of_le h H2.out.size, H2.out.block b h⟩)) (HLT.out.move (w' := wr) (ok' := (· < wr.heap.size)) (fun b h => ⟨Nat.lt_of_lt_of_le h H2.out.size, H2.out.block b h⟩)) HCNT.out.1 HCNT.out.2
        unfold nmV at fP
        have v0 := DA2.out.cell 0 _ rfl
        have v1 := DA2.out.cell 1 _ rfl
        have v2 := DA2.out.cell 2 _ rfl
        have v3 := DA2.out.cell 3 _ rfl
        clear z0 z1 z2 z3 x1 x2 x3
        go_upto_region 15 with (go_at_call 6; (with_reducible refine fP.mono ?_); rintro e w3 ⟨hb3, P, bp, rfl, hP⟩; obtain ⟨aa, an, ac, ra, rn, rc, ca, cn, cc, pa, pn, pc, st⟩ := P; have HPP := Lib.hid hP; have H3 := Lib.hid hb3; unfold PlV.val; dsimp only; have hb4 := hb3.alloc (Nat.le_trans (Nat.le_refl _) hb3.size) (.cells #[.slice aa an ac, .slice ra rn rc, .slice ca cn cc, .slice pa pn pc, .int .i64 st] 37); have H4 := Lib.hid hb4; have DP4 := Lib.hid (Blk.alloc (w := w3) (T := 37) [.slice aa an ac, .slice ra rn rc, .slice ca cn cc, .slice pa pn pc, .int .i64 st]); have dB4 := DB2.out.later hb4 DB2.out.lt; have DB4 := Lib.hid dB4; have b0 := dB4.cell 0 _ rfl; have b1 := dB4.cell 1 _ rfl; have b2 := dB4.cell 2 _ rfl; have b3 := dB4.cell 3 _ rfl; clear hP hb3 hb4 dB4 fP v0 v1 v2 v3; cases bp)
        · go_ret
          exact ⟨rfl, H2.out.trans (H4.out.mono H2.out.size)⟩
        · have HPO := Lib.hid (HPP.out rfl)
          have hDX := Blk.alloc (w := w3.alloc (.cells #[.slice aa an ac, .slice ra rn rc, .slice ca cn cc, .slice pa pn pc, .int .i64 st] 37)) (T := 29) [.bool root, .slice ua un uc, .slice xa xn xc, .slice ka i kc]
          rw [show (w3.alloc (.cells #[.slice aa an ac, .slice ra rn rc, .slice ca cn cc, .slice pa pn pc, .int .i64 st] 37)).heap.size = w3.heap.size + 1 from by simp] at hDX
          have hb5 := H4.out.alloc (Nat.le_trans (Nat.le_refl _) H4.out.size) (.cells #[.bool root, .slice ua un uc, .slice xa xn xc, .slice ka i kc] 29)
          have hDP := DP4.out.alloc_old (.cells #[.bool root, .slice ua un uc, .slice xa xn xc, .slice ka i kc] 29)
          have hDB := DB4.out.alloc_old (.cells #[.bool root, .slice ua un uc, .slice xa xn xc, .slice ka i kc] 29)
          have hP5 := And.intro (HPO.out.2.rd.move (w' := (w3.alloc (.cells #[.slice aa an ac, .slice ra rn rc, .slice ca cn cc, .slice pa pn pc, .int .i64 st] 37)).alloc (.cells #[.bool root, .slice ua un uc, .slice xa xn xc, .slice ka i kc] 29)) (ok' := (· < w3.heap.size)) (fun b hb => ⟨hb, (((Below.refl w3.heap.size w3).alloc (Nat.le_refl _) (.cells #[.slice aa an ac, .slice ra rn rc, .slice ca cn cc, .slice pa pn pc, .int .i64 st] 37)).alloc (by simp) (.cells #[.bool root, .slice ua un uc, .slice xa xn xc, .slice ka i kc] 29)).block b hb⟩)) (And.intro HPO.out.2.steps (And.intro HPO.out.2.nctr (And.intro HPO.out.2.first HPO.out.2.ab)))
          generalize hgP : w3.heap.size = gP at *
          generalize hw5 : (w3.alloc (.cells #[.slice aa an ac, .slice ra rn rc, .slice ca cn cc, .slice pa pn pc, .int .i64 st] 37)).alloc (.cells #[.bool root, .slice ua un uc, .slice xa xn xc, .slice ka i kc] 29) = w5 at *
          have H5 := Lib.hid (show Below w.heap.size w w5 from H2.out.trans (hb5.mono H2.out.size))
          have DX5 := Lib.hid hDX
          have DP5 := Lib.hid hDP
          have DB5 := Lib.hid hDB
          have HP5 := Lib.hid hP5
          have HGB := Lib.hid (show w.heap.size + 1 < gP from by have h1 := H3.out.size; have h2 := H2.out.size; have h3 := HSZ.out; have h4 := DB2.out.lt; omega)
          clear hDX hb5 hDP hDB hP5 hw5 hgP b0 b1 b2 b3
          have FO1 := Lib.hid (fun (wx : World) (hb : Below w.heap.size w wx) => or_any (HUP.out.move (w' := wx) (ok' := (· < wx.heap.size)) (fun b h => ⟨Nat.lt_of_lt_of_le h hb.size, hb.block b h⟩)) (HMO.out.move (w' := wx) (ok' := (· < wx.heap.size)) (fun b h => ⟨Nat.lt_of_lt_of_le h hb.size, hb.block b h⟩)) (by omega))
          have FO2 := Lib.hid (fun (wx : World) (hb : Below w.heap.size w wx) => or_any (HLE.out.move (w' := wx) (ok' := (· < wx.heap.size)) (fun b h => ⟨Nat.lt_of_lt_of_le h hb.size, hb.block b h⟩)) (HMO.out.move (w' := wx) (ok' := (· < wx.heap.size)) (fun b h => ⟨Nat.lt_of_lt_of_le h hb.size, hb.block b h⟩)) (by omega))
          have HD5 := Lib.hid (show Below w5.heap.size w5 w5.drew from (Below.refl _ _).drew)
          have b1 : w5.drew.cell? ⟨w.heap.size + 1, 1, none⟩ = _ := DB5.out.cell 1 _ rfl
          have b2 : w5.drew.cell? ⟨w.heap.size + 1, 2, none⟩ = _ := DB5.out.cell 2 _ rfl
          go_cut [] from 76 to 85 (fun wx => ∃ (wy : World) (p1 : Option Addr) (q1 : Nat) (p2 : Option Addr) (q2 : Nat), wy = wx ∧ Hid (Blk wx (gP + 1) [.bool root, .slice p1 un q1, .slice p2 xn q2, .slice ka i kc] 29) ∧ Hid (BoolsAt (fun b => w5.heap.size ≤ b ∧ b < wx.heap.size) wx p1 un q1 (orB up more)) ∧ Hid (BoolsAt (fun b => w5.heap.size ≤ b ∧ b < wx.heap.size) wx p2 xn q2 (orB left more)) ∧ Hid (w5.grownBy wx (some (gP + 1))))
          case first =>
            go_region_with (first
              | (go_at_call 7; (with_reducible refine (FO1.out w5.drew (H5.out.drew)).mono ?_); rintro e w6 ⟨p1, q1, rfl, hO, hb6⟩; have HA6 := Lib.hid (show Below w5.heap.size w5 w6 from below_trans HD5.out hb6); have OO1 := Lib.hid hO; have HW6 := Lib.hid (H5.out.trans (HA6.out.mono H5.out.size)); have d1 := (DB5.out.later HA6.out DB5.out.lt).cell 1 _ rfl; have d2 := (DB5.out.later HA6.out DB5.out.lt).cell 2 _ rfl; clear hO hb6)
              | (go_at_call 7; (with_reducible refine (FO2.out w5.drew (H5.out.drew)).mono ?_); rintro e w6 ⟨p2, q2, rfl, hO, hb6⟩; have HA6 := Lib.hid (show Below w5.heap.size w5 w6 from below_trans HD5.out hb6); have OO2 := Lib.hid hO; have HW6 := Lib.hid (H5.out.trans (HA6.out.mono H5.out.size)); have d1 := (DB5.out.later HA6.out DB5.out.lt).cell 1 _ rfl; have d2 := (DB5.out.later HA6.out DB5.out.lt).cell 2 _ rfl; clear hO hb6)
              | (go_at_call 7; (with_reducible refine (FO1.out w6 HW6.out).mono ?_); rintro e w7 ⟨p1, q1, rfl, hO, hb7⟩; have HA7 := Lib.hid (show Below w5.heap.size w5 w7 from below_trans HA6.out hb7); have HB7 := Lib.hid hb7; have OO1 := Lib.hid hO; have hx7 := DX5.out.later HA7.out DX5.out.lt; have HX7 := Lib.hid hx7; have c1 := hx7.cell 1 _ rfl; have c2 := hx7.cell 2 _ rfl; have f1 := hx7.frozen 1; have f2 := hx7.frozen 2; clear hO hb7 hx7)
              | (go_at_call 7; (with_reducible refine (FO2.out w6 HW6.out).mono ?_); rintro e w7 ⟨p2, q2, rfl, hO, hb7⟩; have HA7 := Lib.hid (show Below w5.heap.size w5 w7 from below_trans HA6.out hb7); have HB7 := Lib.hid hb7; have OO2 := Lib.hid hO; have hx7 := DX5.out.later HA7.out DX5.out.lt; have HX7 := Lib.hid hx7; have c1 := hx7.cell 1 _ rfl; have c2 := hx7.cell 2 _ rfl; have f1 := hx7.frozen 1; have f2 := hx7.frozen 2; clear hO hb7 hx7))
            all_goals
              have o1 : BoolsAt (fun b => w5.heap.size ≤ b ∧ b < w7.heap.size) w7 p1 un q1 (orB up more) := by
                first
                  | exact OO1.out.move (fun b hb => ⟨⟨hb.1, Nat.lt_of_lt_of_le hb.2 HB7.out.size⟩, HB7.out.block b hb.2⟩)
                  | exact OO1.out.move (fun b hb => ⟨⟨Nat.le_trans HA6.out.size hb.1, hb.2⟩, rfl⟩)
              have o2 : BoolsAt (fun b => w5.heap.size ≤ b ∧ b < w7.heap.size) w7 p2 xn q2 (orB left more) := by
                first
                  | exact OO2.out.move (fun b hb => ⟨⟨hb.1, Nat.lt_of_lt_of_le hb.2 HB7.out.size⟩, HB7.out.block b hb.2⟩)
                  | exact OO2.out.move (fun b hb => ⟨⟨Nat.le_trans HA6.out.size hb.1, hb.2⟩, rfl⟩)
              have K := Lib.hid (And.intro o1 o2)
              clear o1 o2 c1 c2 f1 f2 d1 d2
              go_wp2_with fail
              go_meet
              first
                | exact ⟨_, p1, q1, p2, q2, rfl, or_close12 HX7.out HA7.out DX5.out.lt K.out.1 K.out.2⟩
                | exact ⟨_, p1, q1, p2, q2, rfl, or_close21 HX7.out HA7.out DX5.out.lt K.out.1 K.out.2⟩
          case rest =>
            obtain ⟨w6, p1, q1, p2, q2, rfl, DX6, O1, O2, G6⟩ := hcut
            have DP6 := Lib.hid (DP5.out.kept G6.out (fun e => by have := Option.some.inj e; omega))
            have DB6 := Lib.hid (DB5.out.kept G6.out (fun e => by have := Option.some.inj e; have := HGB.out; omega))
            have HB6 := Lib.hid (show Below w.heap.size w w6 from H5.out.grown G6.out H5.out.size (fun g hg => by have := Option.some.inj hg; have := HGB.out; omega))
            have HP6 := Lib.hid (show PlOk w6 ⟨aa, an, ac, ra, rn, rc, ca, cn, cc, pa, pn, pc, st⟩ (mkSt nm 30 lt).rows (mkSt nm 30 lt).ctrs from ⟨HP5.out.1.move (fun b hb => ⟨by have := G6.out.size; have := DX5.out.lt; omega, G6.out.block b (by have := DX5.out.lt; omega) (fun e => by have := Option.some.inj e; omega)⟩), HP5.out.2.1, HP5.out.2.2.1, HP5.out.2.2.2.1, HP5.out.2.2.2.2⟩)
            have CXA := fun {wx : World} (hb : Below w6.heap.size w6 wx) => CxRd.move (X := ⟨root, ua, un, uc, xa, xn, xc, ka, i, kc⟩) (w := w) (w' := wx) (ok := (· < w.heap.size)) (ok' := (· < wx.heap.size)) ⟨HUP.out, HLE.out, HCN.out⟩ (fun b h => ⟨Nat.lt_of_lt_of_le h (Nat.le_trans HB6.out.size hb.size), (hb.block b (Nat.lt_of_lt_of_le h HB6.out.size)).trans (HB6.out.block b h)⟩)
            have CXB := fun {wx : World} (hb : Below w6.heap.size w6 wx) => (show CxRd (· < wx.heap.size) wx ⟨root, p1, un, q1, p2, xn, q2, ka, i, kc⟩ (orB up more) (orB left more) cnt from CxRd.mk (O1.out.move (ok' := (· < wx.heap.size)) (fun b h => ⟨Nat.lt_of_lt_of_le h.2 hb.size, hb.block b h.2⟩)) (O2.out.move (ok' := (· < wx.heap.size)) (fun b h => ⟨Nat.lt_of_lt_of_le h.2 hb.size, hb.block b h.2⟩)) (HCN.out.move (ok' := (· < wx.heap.size)) (fun b h => ⟨Nat.lt_of_lt_of_le h (Nat.le_trans HB6.out.size hb.size), (hb.block b (Nat.lt_of_lt_of_le h HB6.out.size)).trans (HB6.out.block b h)⟩)))
            have TRA := fun {wx : World} (hb : Below w6.heap.size w6 wx) => HTR.out.move (w' := wx) (ok' := (· < wx.heap.size)) (fun b h => ⟨Nat.lt_of_lt_of_le h (Nat.le_trans HB6.out.size hb.size), (hb.block b (Nat.lt_of_lt_of_le h HB6.out.size)).trans (HB6.out.block b h)⟩)
            have FD1 := Lib.hid (fun (wx : World) (hb : Below w6.heap.size w6 wx) => down_any (HP6.out.later hb) (X := ⟨root, ua, un, uc, xa, xn, xc, ka, i, kc⟩) (up := up) (left := left) (cnt := cnt) (CXA hb) (ta := ta) (tn := tn) (tc := tc) (TRA hb))
            have FD2 := Lib.hid (fun (wx : World) (hb : Below w6.heap.size w6 wx) => down_any (HP6.out.later hb) (X := ⟨root, p1, un, q1, p2, xn, q2, ka, i, kc⟩) (up := orB up more) (left := orB left more) (cnt := cnt) (CXB hb) (ta := ta) (tn := tn) (tc := tc) (TRA hb))
            unfold PlV.val CxV.val at FD1 FD2
            dsimp only at FD1 FD2
            have HD6 := Lib.hid (show Below w6.heap.size w6 w6.drew from (Below.refl _ _).drew)
            go_wp2_with fail
            go_cut [16, 17] from 86 to 93 (fun s16 s17 wx => ∃ (wy : World) (g1 g2 u1 l1 k1 u2 l2 k2 : Nat), wy = wx ∧ s16 = .pointer (some ⟨g1, 0, none⟩) ∧ s17 = .pointer (some ⟨g2, 0, none⟩) ∧ Hid (Blk wx g1 (ctxL u1 l1 k1 (stepsN (mkSt nm 30 lt).rows) (mkSt nm 30 lt).ctrs.length) 29) ∧ Hid (Blk wx g2 (ctxL u2 l2 k2 (stepsN (mkSt nm 30 lt).rows) (mkSt nm 30 lt).ctrs.length) 29) ∧ Hid (CtxAt wx w6.heap.size u1 l1 k1 (tellF 1 2 (keptF (mkSt nm 30 lt).rows) up truths (List.replicate (stepsN (mkSt nm 30 lt).rows) false)) (List.replicate (stepsN (mkSt nm 30 lt).rows) false) (List.replicate (mkSt nm 30 lt).ctrs.length 0)) ∧ Hid (CtxAt wx w6.heap.size u2 l2 k2 (tellF 1 2 (keptF (mkSt nm 30 lt).rows) (orB up more) truths (List.replicate (stepsN (mkSt nm 30 lt).rows) false)) (List.replicate (stepsN (mkSt nm 30 lt).rows) false) (List.replicate (mkSt nm 30 lt).ctrs.length 0)) ∧ Hid (Below w6.heap.size w6 wx))
            case first =>
              have KS := Lib.hid (fun (wx : World) (hb : Below w6.heap.size w6 wx) => show wx.cell? ⟨gP, 0, none⟩ = some (.slice aa an ac) ∧ wx.cell? ⟨gP, 1, none⟩ = some (.slice ra rn rc) ∧ wx.cell? ⟨gP, 2, none⟩ = some (.slice ca cn cc) ∧ wx.cell? ⟨gP, 3, none⟩ = some (.slice pa pn pc) ∧ wx.cell? ⟨gP, 4, none⟩ = some (.int .i64 st) ∧ wx.cell? ⟨w.heap.size + 1, 0, none⟩ = some (.bool root) ∧ wx.cell? ⟨w.heap.size + 1, 1, none⟩ = some (.slice ua un uc) ∧ wx.cell? ⟨w.heap.size + 1, 2, none⟩ = some (.slice xa xn xc) ∧ wx.cell? ⟨w.heap.size + 1, 3, none⟩ = some (.slice ka i kc) ∧ wx.cell? ⟨gP + 1, 0, none⟩ = some (.bool root) ∧ wx.cell? ⟨gP + 1, 1, none⟩ = some (.slice p1 un q1) ∧ wx.cell? ⟨gP + 1, 2, none⟩ = some (.slice p2 xn q2) ∧ wx.cell? ⟨gP + 1, 3, none⟩ = some (.slice ka i kc) ∧ Below w6.heap.size w6 wx from ⟨(DP6.out.later hb DP6.out.lt).cell 0 _ rfl, (DP6.out.later hb DP6.out.lt).cell 1 _ rfl, (DP6.out.later hb DP6.out.lt).cell 2 _ rfl, (DP6.out.later hb DP6.out.lt).cell 3 _ rfl, (DP6.out.later hb DP6.out.lt).cell 4 _ rfl, (DB6.out.later hb DB6.out.lt).cell 0 _ rfl, (DB6.out.later hb DB6.out.lt).cell 1 _ rfl, (DB6.out.later hb DB6.out.lt).cell 2 _ rfl, (DB6.out.later hb DB6.out.lt).cell 3 _ rfl, (DX6.out.later hb DX6.out.lt).cell 0 _ rfl, (DX6.out.later hb DX6.out.lt).cell 1 _ rfl, (DX6.out.later hb DX6.out.lt).cell 2 _ rfl, (DX6.out.later hb DX6.out.lt).cell 3 _ rfl, hb⟩)
              refine wp_region_held_drew (S := fun wx => wx.cell? ⟨gP, 0, none⟩ = some (.slice aa an ac) ∧ wx.cell? ⟨gP, 1, none⟩ = some (.slice ra rn rc) ∧ wx.cell? ⟨gP, 2, none⟩ = some (.slice ca cn cc) ∧ wx.cell? ⟨gP, 3, none⟩ = some (.slice pa pn pc) ∧ wx.cell? ⟨gP, 4, none⟩ = some (.int .i64 st) ∧ wx.cell? ⟨w.heap.size + 1, 0, none⟩ = some (.bool root) ∧ wx.cell? ⟨w.heap.size + 1, 1, none⟩ = some (.slice ua un uc) ∧ wx.cell? ⟨w.heap.size + 1, 2, none⟩ = some (.slice xa xn xc) ∧ wx.cell? ⟨w.heap.size + 1, 3, none⟩ = some (.slice ka i kc) ∧ wx.cell? ⟨gP + 1, 0, none⟩ = some (.bool root) ∧ wx.cell? ⟨gP + 1, 1, none⟩ = some (.slice p1 un q1) ∧ wx.cell? ⟨gP + 1, 2, none⟩ = some (.slice p2 xn q2) ∧ wx.cell? ⟨gP + 1, 3, none⟩ = some (.slice ka i kc) ∧ Below w6.heap.size w6 wx) (by kernel_rfl) (KS.out _ HD6.out) (fun hHeld => ?_)
              have HB := Lib.hid HD6.out
              generalize hz : w6.drew = z at HB hHeld ⊢
              clear hz HD6
              refine wpAnyH_take (i := 0) (v := ?_) rfl (by kernel_rfl) (by decide +kernel) (by decide +kernel) (fun _ _ _ h => h) (Or.inl ⟨by kernel_rfl, ?_⟩) (by assumption) ?_
              rotate_left
              · (intro wq hSw; (try dsimp only at hSw); go_simp; try with_reducible rfl)
              try simp only [Act.put, ssA, ssZ, ssS]
              refine wpAnyH_take (i := 1) (v := ?_) rfl (by kernel_rfl) (by decide +kernel) (by decide +kernel) (fun _ _ _ h => h) (Or.inl ⟨by kernel_rfl, ?_⟩) (by assumption) ?_
              rotate_left
              · (intro wq hSw; (try dsimp only at hSw); go_simp; try with_reducible rfl)
              try simp only [Act.put, ssA, ssZ, ssS]
              refine wpAnyH_take (i := 2) (v := ?_) rfl (by kernel_rfl) (by decide +kernel) (by decide +kernel) (fun _ _ _ h => h) (Or.inl ⟨by kernel_rfl, ?_⟩) (by assumption) ?_
              rotate_left
              · (intro wq hSw; (try dsimp only at hSw); go_simp; try with_reducible rfl)
              try simp only [Act.put, ssA, ssZ, ssS]
              refine wpAnyH_take (i := 4) (v := ?_) rfl (by kernel_rfl) (by decide +kernel) (by decide +kernel) (fun _ _ _ h => h) (Or.inl ⟨by kernel_rfl, ?_⟩) (by assumption) ?_
              rotate_left
              · (intro wq hSw; (try dsimp only at hSw); go_simp; try with_reducible rfl)
              try simp only [Act.put, ssA, ssZ, ssS]
              refine wpAnyH_take (i := 5) (v := ?_) rfl (by kernel_rfl) (by decide +kernel) (by decide +kernel) (fun _ _ _ h => h) (Or.inl ⟨by kernel_rfl, ?_⟩) (by assumption) ?_
              rotate_left
              · (intro wq hSw; (try dsimp only at hSw); go_simp; try with_reducible rfl)
              try simp only [Act.put, ssA, ssZ, ssS]
              refine wpAnyH_take (i := 6) (v := ?_) rfl (by kernel_rfl) (by decide +kernel) (by decide +kernel) (fun _ _ _ h => h) (Or.inl ⟨by kernel_rfl, ?_⟩) (by assumption) ?_
              rotate_left
              · (intro wq hSw; (try dsimp only at hSw); go_simp; try with_reducible rfl)
              try simp only [Act.put, ssA, ssZ, ssS]
              repeat' (first
                | (have _q : Hid ((3 : Nat) = 3) := mk
                   clear _q mk hHeld
                   go_simp
                   go_at_call 8
                   (with_reducible refine (FD1.out z HB.out).mono ?_)
                   rintro e z ⟨u1, l1, k1, rfl, hC, hb⟩
                   unfold ctxV
                   have c1 := Lib.hid (hC.onto HB.out.size)
                   (try have mA1 := Lib.hid (hC.older bA.out.lt))
                   (try have mB1 := Lib.hid (hC.older bB.out.lt))
                   replace HB := Lib.hid (HB.out.trans (hb.mono HB.out.size))
                   (try replace bA := Lib.hid (bA.out.later hb bA.out.lt))
                   (try replace bB := Lib.hid (bB.out.later hb bB.out.lt))
                   (try replace c2 := Lib.hid (c2.out.later hb))
                   clear hC hb
                   go_wp2_with fail
                   refine hK.out _ _ (KS.out _ HB.out) (fun hHeld => ?_)
                   clear hK K
                   try simp only [Act.put, ssA, ssZ, ssS])
                | (have _q : Hid ((7 : Nat) = 7) := mk
                   clear _q mk hHeld
                   go_simp
                   go_at_call 8
                   (with_reducible refine (FD2.out z HB.out).mono ?_)
                   rintro e z ⟨u2, l2, k2, rfl, hC, hb⟩
                   unfold ctxV
                   have c2 := Lib.hid (hC.onto HB.out.size)
                   (try have mA2 := Lib.hid (hC.older bA.out.lt))
                   (try have mB2 := Lib.hid (hC.older bB.out.lt))
                   replace HB := Lib.hid (HB.out.trans (hb.mono HB.out.size))
                   (try replace bA := Lib.hid (bA.out.later hb bA.out.lt))
                   (try replace bB := Lib.hid (bB.out.later hb bB.out.lt))
                   (try replace c1 := Lib.hid (c1.out.later hb))
                   clear hC hb
                   go_wp2_with fail
                   refine hK.out _ _ (KS.out _ HB.out) (fun hHeld => ?_)
                   clear hK K
                   try simp only [Act.put, ssA, ssZ, ssS])
                | (have _q : Hid ((8 : Nat) = 8) := mk
                   clear _q mk hHeld
                   go_simp
                   refine hK.out _ _ (KS.out _ (HB.out.alloc HB.out.size _)) (fun hHeld => ?_)
                   clear hK K
                   try simp only [Act.put, ssA, ssZ, ssS]
                   have kb := (Below.refl z.heap.size z).alloc (Nat.le_refl _) (.cells #[.bool false, .slice none 0 0, .slice none 0 0, .slice none 0 0] 29)
                   have lA := Lib.hid HB.out.size
                   have bA := Lib.hid (Blk.alloc (w := z) (T := 29) [.bool false, .slice none 0 0, .slice none 0 0, .slice none 0 0])
                   (try have mA1 := Lib.hid c1.out.newer)
                   (try have mA2 := Lib.hid c2.out.newer)
                   (try have nAB := Lib.hid (Nat.ne_of_gt bB.out.lt))
                   replace HB := Lib.hid (HB.out.alloc HB.out.size (.cells #[.bool false, .slice none 0 0, .slice none 0 0, .slice none 0 0] 29))
                   (try replace bB := Lib.hid (bB.out.later kb bB.out.lt))
                   (try replace c1 := Lib.hid (c1.out.later kb))
                   (try replace c2 := Lib.hid (c2.out.later kb))
                   clear kb
                   generalize hg : z.heap.size = gA at *
                   clear hg
                   generalize hz : z.alloc (.cells #[.bool false, .slice none 0 0, .slice none 0 0, .slice none 0 0] 29) = z at *
                   clear hz)
                | (have _q : Hid ((9 : Nat) = 9) := mk
                   clear _q mk hHeld
                   go_simp
                   refine hK.out _ _ (KS.out _ (HB.out.alloc HB.out.size _)) (fun hHeld => ?_)
                   clear hK K
                   try simp only [Act.put, ssA, ssZ, ssS]
                   have kb := (Below.refl z.heap.size z).alloc (Nat.le_refl _) (.cells #[.bool false, .slice none 0 0, .slice none 0 0, .slice none 0 0] 29)
                   have lB := Lib.hid HB.out.size
                   have bB := Lib.hid (Blk.alloc (w := z) (T := 29) [.bool false, .slice none 0 0, .slice none 0 0, .slice none 0 0])
                   (try have mB1 := Lib.hid c1.out.newer)
                   (try have mB2 := Lib.hid c2.out.newer)
                   (try have nAB := Lib.hid (Nat.ne_of_lt bA.out.lt))
                   replace HB := Lib.hid (HB.out.alloc HB.out.size (.cells #[.bool false, .slice none 0 0, .slice none 0 0, .slice none 0 0] 29))
                   (try replace bA := Lib.hid (bA.out.later kb bA.out.lt))
                   (try replace c1 := Lib.hid (c1.out.later kb))
                   (try replace c2 := Lib.hid (c2.out.later kb))
                   clear kb
                   generalize hg : z.heap.size = gB at *
                   clear hg
                   generalize hz : z.alloc (.cells #[.bool false, .slice none 0 0, .slice none 0 0, .slice none 0 0] 29) = z at *
                   clear hz)
                | (have _q : Hid ((10 : Nat) = 10) := mk
                   clear _q mk hHeld
                   have s0 := bA.out.cell 0 _ rfl
                   have t0 := bA.out.frozen 0
                   have s1 := bA.out.cell 1 _ rfl
                   have t1 := bA.out.frozen 1
                   have s2 := bA.out.cell 2 _ rfl
                   have t2 := bA.out.frozen 2
                   have s3 := bA.out.cell 3 _ rfl
                   have t3 := bA.out.frozen 3
                   go_simp
                   clear s0 s1 s2 s3 t0 t1 t2 t3
                   have HQ := Lib.hid (store4 (v0 := .bool false) (v1 := .slice (some ⟨u1, 0, none⟩) (stepsN (mkSt nm 30 lt).rows) (stepsN (mkSt nm 30 lt).rows)) (v2 := .slice (some ⟨l1, 0, none⟩) (stepsN (mkSt nm 30 lt).rows) (stepsN (mkSt nm 30 lt).rows)) (v3 := .slice (some ⟨k1, 0, none⟩) (mkSt nm 30 lt).ctrs.length (mkSt nm 30 lt).ctrs.length) bA.out HB.out lA.out)
                   refine hK.out _ _ (KS.out _ HQ.out.2.2) (fun hHeld => ?_)
                   clear hK K
                   try simp only [Act.put, ssA, ssZ, ssS]
                   replace HB := Lib.hid HQ.out.2.2
                   replace bA := Lib.hid HQ.out.1
                   replace bB := Lib.hid (bB.out.kept HQ.out.2.1 (fun e => nAB.out (Option.some.inj e)))
                   replace c1 := Lib.hid (c1.out.kept HQ.out.2.1 mA1.out)
                   replace c2 := Lib.hid (c2.out.kept HQ.out.2.1 mA2.out)
                   clear HQ
                   generalize hz : ((((z.setCell ⟨gA, 0, none⟩ (.bool false)).setCell ⟨gA, 1, none⟩ (.slice (some ⟨u1, 0, none⟩) (stepsN (mkSt nm 30 lt).rows) (stepsN (mkSt nm 30 lt).rows))).setCell ⟨gA, 2, none⟩ (.slice (some ⟨l1, 0, none⟩) (stepsN (mkSt nm 30 lt).rows) (stepsN (mkSt nm 30 lt).rows))).setCell ⟨gA, 3, none⟩ (.slice (some ⟨k1, 0, none⟩) (mkSt nm 30 lt).ctrs.length (mkSt nm 30 lt).ctrs.length)) = z at *
                   clear hz)
                | (have _q : Hid ((11 : Nat) = 11) := mk
                   clear _q mk hHeld
                   have s0 := bB.out.cell 0 _ rfl
                   have t0 := bB.out.frozen 0
                   have s1 := bB.out.cell 1 _ rfl
                   have t1 := bB.out.frozen 1
                   have s2 := bB.out.cell 2 _ rfl
                   have t2 := bB.out.frozen 2
                   have s3 := bB.out.cell 3 _ rfl
                   have t3 := bB.out.frozen 3
                   go_simp
                   clear s0 s1 s2 s3 t0 t1 t2 t3
                   have HQ := Lib.hid (store4 (v0 := .bool false) (v1 := .slice (some ⟨u2, 0, none⟩) (stepsN (mkSt nm 30 lt).rows) (stepsN (mkSt nm 30 lt).rows)) (v2 := .slice (some ⟨l2, 0, none⟩) (stepsN (mkSt nm 30 lt).rows) (stepsN (mkSt nm 30 lt).rows)) (v3 := .slice (some ⟨k2, 0, none⟩) (mkSt nm 30 lt).ctrs.length (mkSt nm 30 lt).ctrs.length) bB.out HB.out lB.out)
                   refine hK.out _ _ (KS.out _ HQ.out.2.2) (fun hHeld => ?_)
                   clear hK K
                   try simp only [Act.put, ssA, ssZ, ssS]
                   replace HB := Lib.hid HQ.out.2.2
                   replace bB := Lib.hid HQ.out.1
                   replace bA := Lib.hid (bA.out.kept HQ.out.2.1 (fun e => nAB.out (Option.some.inj e).symm))
                   replace c1 := Lib.hid (c1.out.kept HQ.out.2.1 mB1.out)
                   replace c2 := Lib.hid (c2.out.kept HQ.out.2.1 mB2.out)
                   clear HQ
                   generalize hz : ((((z.setCell ⟨gB, 0, none⟩ (.bool false)).setCell ⟨gB, 1, none⟩ (.slice (some ⟨u2, 0, none⟩) (stepsN (mkSt nm 30 lt).rows) (stepsN (mkSt nm 30 lt).rows))).setCell ⟨gB, 2, none⟩ (.slice (some ⟨l2, 0, none⟩) (stepsN (mkSt nm 30 lt).rows) (stepsN (mkSt nm 30 lt).rows))).setCell ⟨gB, 3, none⟩ (.slice (some ⟨k2, 0, none⟩) (mkSt nm 30 lt).ctrs.length (mkSt nm 30 lt).ctrs.length)) = z at *
                   clear hz)
                | (refine wpAnyH_ready (rs := [3]) (by decide +kernel) (by simp) ?_
                   refine AllReadyH.cons rfl (fun K hK => (fun (mk : Hid ((3 : Nat) = 3)) => ?_) (Lib.hid rfl)) AllReadyH.nil)
                | (refine wpAnyH_ready (rs := [9]) (by decide +kernel) (by simp) ?_
                   refine AllReadyH.cons rfl (fun K hK => (fun (mk : Hid ((9 : Nat) = 9)) => ?_) (Lib.hid rfl)) AllReadyH.nil)
                | (refine wpAnyH_ready (rs := [8]) (by decide +kernel) (by simp) ?_
                   refine AllReadyH.cons rfl (fun K hK => (fun (mk : Hid ((8 : Nat) = 8)) => ?_) (Lib.hid rfl)) AllReadyH.nil)
                | (refine wpAnyH_ready (rs := [7]) (by decide +kernel) (by simp) ?_
                   refine AllReadyH.cons rfl (fun K hK => (fun (mk : Hid ((7 : Nat) = 7)) => ?_) (Lib.hid rfl)) AllReadyH.nil)
                | (refine wpAnyH_ready (rs := [10]) (by decide +kernel) (by simp) ?_
                   refine AllReadyH.cons rfl (fun K hK => (fun (mk : Hid ((10 : Nat) = 10)) => ?_) (Lib.hid rfl)) AllReadyH.nil)
                | (refine wpAnyH_ready (rs := [11]) (by decide +kernel) (by simp) ?_
                   refine AllReadyH.cons rfl (fun K hK => (fun (mk : Hid ((11 : Nat) = 11)) => ?_) (Lib.hid rfl)) AllReadyH.nil)
                | (refine wpAnyH_ready (rs := [3, 9]) (by decide +kernel) (by simp) ?_
                   refine AllReadyH.cons rfl (fun K hK => (fun (mk : Hid ((3 : Nat) = 3)) => ?_) (Lib.hid rfl)) (AllReadyH.cons rfl (fun K hK => (fun (mk : Hid ((9 : Nat) = 9)) => ?_) (Lib.hid rfl)) AllReadyH.nil))
                | (refine wpAnyH_ready (rs := [3, 8]) (by decide +kernel) (by simp) ?_
                   refine AllReadyH.cons rfl (fun K hK => (fun (mk : Hid ((3 : Nat) = 3)) => ?_) (Lib.hid rfl)) (AllReadyH.cons rfl (fun K hK => (fun (mk : Hid ((8 : Nat) = 8)) => ?_) (Lib.hid rfl)) AllReadyH.nil))
                | (refine wpAnyH_ready (rs := [8, 9]) (by decide +kernel) (by simp) ?_
                   refine AllReadyH.cons rfl (fun K hK => (fun (mk : Hid ((8 : Nat) = 8)) => ?_) (Lib.hid rfl)) (AllReadyH.cons rfl (fun K hK => (fun (mk : Hid ((9 : Nat) = 9)) => ?_) (Lib.hid rfl)) AllReadyH.nil))
                | (refine wpAnyH_ready (rs := [7, 9]) (by decide +kernel) (by simp) ?_
                   refine AllReadyH.cons rfl (fun K hK => (fun (mk : Hid ((7 : Nat) = 7)) => ?_) (Lib.hid rfl)) (AllReadyH.cons rfl (fun K hK => (fun (mk : Hid ((9 : Nat) = 9)) => ?_) (Lib.hid rfl)) AllReadyH.nil))
                | (refine wpAnyH_ready (rs := [7, 8]) (by decide +kernel) (by simp) ?_
                   refine AllReadyH.cons rfl (fun K hK => (fun (mk : Hid ((7 : Nat) = 7)) => ?_) (Lib.hid rfl)) (AllReadyH.cons rfl (fun K hK => (fun (mk : Hid ((8 : Nat) = 8)) => ?_) (Lib.hid rfl)) AllReadyH.nil))
                | (refine wpAnyH_ready (rs := [3, 8, 9]) (by decide +kernel) (by simp) ?_
                   refine AllReadyH.cons rfl (fun K hK => (fun (mk : Hid ((3 : Nat) = 3)) => ?_) (Lib.hid rfl)) (AllReadyH.cons rfl (fun K hK => (fun (mk : Hid ((8 : Nat) = 8)) => ?_) (Lib.hid rfl)) (AllReadyH.cons rfl (fun K hK => (fun (mk : Hid ((9 : Nat) = 9)) => ?_) (Lib.hid rfl)) AllReadyH.nil)))
                | (refine wpAnyH_ready (rs := [7, 8, 9]) (by decide +kernel) (by simp) ?_
                   refine AllReadyH.cons rfl (fun K hK => (fun (mk : Hid ((7 : Nat) = 7)) => ?_) (Lib.hid rfl)) (AllReadyH.cons rfl (fun K hK => (fun (mk : Hid ((8 : Nat) = 8)) => ?_) (Lib.hid rfl)) (AllReadyH.cons rfl (fun K hK => (fun (mk : Hid ((9 : Nat) = 9)) => ?_) (Lib.hid rfl)) AllReadyH.nil))))
              all_goals
                refine wpAnyH_done (by decide +kernel) ?_ _
                go_wp2_with fail
                go_meet
                exact ⟨z, gA, gB, u1, l1, k1, u2, l2, k2, rfl, rfl, rfl, bA, bB, c1, c2, HB⟩
            case rest =>
              obtain ⟨w9, g1, g2, u1, l1, k1, u2, l2, k2, rfl, rfl, rfl, Q1, Q2, C1, C2, HB9⟩ := hcut
              have DP9 := Lib.hid (DP6.out.later HB9.out DP6.out.lt)
              have DB9 := Lib.hid (DB6.out.later HB9.out DB6.out.lt)
              have DX9 := Lib.hid (DX6.out.later HB9.out DX6.out.lt)
              have FN1 := Lib.hid (fun (wx : World) (hb : Below w9.heap.size w9 wx) => next_any (HP6.out.later (below_trans HB9.out hb)) (X := ⟨root, ua, un, uc, xa, xn, xc, ka, i, kc⟩) (up := up) (left := left) (cnt := cnt) (CXA (below_trans HB9.out hb)) HCB.out (ta := ta) (tn := tn) (tc := tc) (TRA (below_trans HB9.out hb)))
              have FN2 := Lib.hid (fun (wx : World) (hb : Below w9.heap.size w9 wx) => next_any (HP6.out.later (below_trans HB9.out hb)) (X := ⟨root, p1, un, q1, p2, xn, q2, ka, i, kc⟩) (up := orB up more) (left := orB left more) (cnt := cnt) (CXB (below_trans HB9.out hb)) HCB.out (ta := ta) (tn := tn) (tc := tc) (TRA (below_trans HB9.out hb)))
              unfold PlV.val CxV.val at FN1 FN2
              dsimp only at FN1 FN2
              clear FD1 FD2 CXA CXB TRA
              have HD9 := Lib.hid (show Below w9.heap.size w9 w9.drew from (Below.refl _ _).drew)
              go_wp2_with fail
              go_cut [18, 19] from 94 to 101 (fun s18 s19 wx => ∃ (wy : World) (g3 g4 u3 l3 k3 u4 l4 k4 : Nat), wy = wx ∧ s18 = .pointer (some ⟨g3, 0, none⟩) ∧ s19 = .pointer (some ⟨g4, 0, none⟩) ∧ Hid (Blk wx g3 (ctxL u3 l3 k3 (stepsN (mkSt nm 30 lt).rows) (mkSt nm 30 lt).ctrs.length) 29) ∧ Hid (Blk wx g4 (ctxL u4 l4 k4 (stepsN (mkSt nm 30 lt).rows) (mkSt nm 30 lt).ctrs.length) 29) ∧ Hid (CtxAt wx w9.heap.size u3 l3 k3 (copyB (List.replicate (stepsN (mkSt nm 30 lt).rows) false) up) (tellF 4 3 (keptF (mkSt nm 30 lt).rows) left truths (List.replicate (stepsN (mkSt nm 30 lt).rows) false)) (nxtI (mkSt nm 30 lt).rows truths (mkSt nm 30 lt).ctrs (copyI (List.replicate (mkSt nm 30 lt).ctrs.length 0) cnt) (mkSt nm 30 lt).ctrs.length)) ∧ Hid (CtxAt wx w9.heap.size u4 l4 k4 (copyB (List.replicate (stepsN (mkSt nm 30 lt).rows) false) (orB up more)) (tellF 4 3 (keptF (mkSt nm 30 lt).rows) (orB left more) truths (List.replicate (stepsN (mkSt nm 30 lt).rows) false)) (nxtI (mkSt nm 30 lt).rows truths (mkSt nm 30 lt).ctrs (copyI (List.replicate (mkSt nm 30 lt).ctrs.length 0) cnt) (mkSt nm 30 lt).ctrs.length)) ∧ Hid (Below w9.heap.size w9 wx))
              case first =>
                have KS := Lib.hid (fun (wx : World) (hb : Below w9.heap.size w9 wx) => show wx.cell? ⟨gP, 0, none⟩ = some (.slice aa an ac) ∧ wx.cell? ⟨gP, 1, none⟩ = some (.slice ra rn rc) ∧ wx.cell? ⟨gP, 2, none⟩ = some (.slice ca cn cc) ∧ wx.cell? ⟨gP, 3, none⟩ = some (.slice pa pn pc) ∧ wx.cell? ⟨gP, 4, none⟩ = some (.int .i64 st) ∧ wx.cell? ⟨w.heap.size + 1, 0, none⟩ = some (.bool root) ∧ wx.cell? ⟨w.heap.size + 1, 1, none⟩ = some (.slice ua un uc) ∧ wx.cell? ⟨w.heap.size + 1, 2, none⟩ = some (.slice xa xn xc) ∧ wx.cell? ⟨w.heap.size + 1, 3, none⟩ = some (.slice ka i kc) ∧ wx.cell? ⟨gP + 1, 0, none⟩ = some (.bool root) ∧ wx.cell? ⟨gP + 1, 1, none⟩ = some (.slice p1 un q1) ∧ wx.cell? ⟨gP + 1, 2, none⟩ = some (.slice p2 xn q2) ∧ wx.cell? ⟨gP + 1, 3, none⟩ = some (.slice ka i kc) ∧ Below w9.heap.size w9 wx from ⟨(DP9.out.later hb DP9.out.lt).cell 0 _ rfl, (DP9.out.later hb DP9.out.lt).cell 1 _ rfl, (DP9.out.later hb DP9.out.lt).cell 2 _ rfl, (DP9.out.later hb DP9.out.lt).cell 3 _ rfl, (DP9.out.later hb DP9.out.lt).cell 4 _ rfl, (DB9.out.later hb DB9.out.lt).cell 0 _ rfl, (DB9.out.later hb DB9.out.lt).cell 1 _ rfl, (DB9.out.later hb DB9.out.lt).cell 2 _ rfl, (DB9.out.later hb DB9.out.lt).cell 3 _ rfl, (DX9.out.later hb DX9.out.lt).cell 0 _ rfl, (DX9.out.later hb DX9.out.lt).cell 1 _ rfl, (DX9.out.later hb DX9.out.lt).cell 2 _ rfl, (DX9.out.later hb DX9.out.lt).cell 3 _ rfl, hb⟩)
                refine wp_region_held_drew (S := fun wx => wx.cell? ⟨gP, 0, none⟩ = some (.slice aa an ac) ∧ wx.cell? ⟨gP, 1, none⟩ = some (.slice ra rn rc) ∧ wx.cell? ⟨gP, 2, none⟩ = some (.slice ca cn cc) ∧ wx.cell? ⟨gP, 3, none⟩ = some (.slice pa pn pc) ∧ wx.cell? ⟨gP, 4, none⟩ = some (.int .i64 st) ∧ wx.cell? ⟨w.heap.size + 1, 0, none⟩ = some (.bool root) ∧ wx.cell? ⟨w.heap.size + 1, 1, none⟩ = some (.slice ua un uc) ∧ wx.cell? ⟨w.heap.size + 1, 2, none⟩ = some (.slice xa xn xc) ∧ wx.cell? ⟨w.heap.size + 1, 3, none⟩ = some (.slice ka i kc) ∧ wx.cell? ⟨gP + 1, 0, none⟩ = some (.bool root) ∧ wx.cell? ⟨gP + 1, 1, none⟩ = some (.slice p1 un q1) ∧ wx.cell? ⟨gP + 1, 2, none⟩ = some (.slice p2 xn q2) ∧ wx.cell? ⟨gP + 1, 3, none⟩ = some (.slice ka i kc) ∧ Below w9.heap.size w9 wx) (by kernel_rfl) (KS.out _ HD9.out) (fun hHeld => ?_)
                have HB := Lib.hid HD9.out
                generalize hz : w9.drew = z at HB hHeld ⊢
                clear hz HD9
                refine wpAnyH_take (i := 0) (v := ?_) rfl (by kernel_rfl) (by decide +kernel) (by decide +kernel) (fun _ _ _ h => h) (Or.inl ⟨by kernel_rfl, ?_⟩) (by assumption) ?_
                rotate_left
                · (intro wq hSw; (try dsimp only at hSw); go_simp; try with_reducible rfl)
                try simp only [Act.put, ssA, ssZ, ssS]
                refine wpAnyH_take (i := 1) (v := ?_) rfl (by kernel_rfl) (by decide +kernel) (by decide +kernel) (fun _ _ _ h => h) (Or.inl ⟨by kernel_rfl, ?_⟩) (by assumption) ?_
                rotate_left
                · (intro wq hSw; (try dsimp only at hSw); go_simp; try with_reducible rfl)
                try simp only [Act.put, ssA, ssZ, ssS]
                refine wpAnyH_take (i := 2) (v := ?_) rfl (by kernel_rfl) (by decide +kernel) (by decide +kernel) (fun _ _ _ h => h) (Or.inl ⟨by kernel_rfl, ?_⟩) (by assumption) ?_
                rotate_left
                · (intro wq hSw; (try dsimp only at hSw); go_simp; try with_reducible rfl)
                try simp only [Act.put, ssA, ssZ, ssS]
                refine wpAnyH_take (i := 4) (v := ?_) rfl (by kernel_rfl) (by decide +kernel) (by decide +kernel) (fun _ _ _ h => h) (Or.inl ⟨by kernel_rfl, ?_⟩) (by assumption) ?_
                rotate_left
                · (intro wq hSw; (try dsimp only at hSw); go_simp; try with_reducible rfl)
                try simp only [Act.put, ssA, ssZ, ssS]
                refine wpAnyH_take (i := 5) (v := ?_) rfl (by kernel_rfl) (by decide +kernel) (by decide +kernel) (fun _ _ _ h => h) (Or.inl ⟨by kernel_rfl, ?_⟩) (by assumption) ?_
                rotate_left
                · (intro wq hSw; (try dsimp only at hSw); go_simp; try with_reducible rfl)
                try simp only [Act.put, ssA, ssZ, ssS]
                refine wpAnyH_take (i := 6) (v := ?_) rfl (by kernel_rfl) (by decide +kernel) (by decide +kernel) (fun _ _ _ h => h) (Or.inl ⟨by kernel_rfl, ?_⟩) (by assumption) ?_
                rotate_left
                · (intro wq hSw; (try dsimp only at hSw); go_simp; try with_reducible rfl)
                try simp only [Act.put, ssA, ssZ, ssS]
                repeat' (first
                  | (have _q : Hid ((3 : Nat) = 3) := mk
                     clear _q mk hHeld
                     go_simp
                     go_at_call 9
                     (with_reducible refine (FN1.out z HB.out).mono ?_)
                     rintro e z ⟨u3, l3, k3, rfl, hC, hb⟩
                     unfold ctxV
                     have c3 := Lib.hid (hC.onto HB.out.size)
                     (try have mA3 := Lib.hid (hC.older bA.out.lt))
                     (try have mB3 := Lib.hid (hC.older bB.out.lt))
                     replace HB := Lib.hid (HB.out.trans (hb.mono HB.out.size))
                     (try replace bA := Lib.hid (bA.out.later hb bA.out.lt))
                     (try replace bB := Lib.hid (bB.out.later hb bB.out.lt))
                     (try replace c4 := Lib.hid (c4.out.later hb))
                     clear hC hb
                     go_wp2_with fail
                     refine hK.out _ _ (KS.out _ HB.out) (fun hHeld => ?_)
                     clear hK K
                     try simp only [Act.put, ssA, ssZ, ssS])
                  | (have _q : Hid ((7 : Nat) = 7) := mk
                     clear _q mk hHeld
                     go_simp
                     go_at_call 9
                     (with_reducible refine (FN2.out z HB.out).mono ?_)
                     rintro e z ⟨u4, l4, k4, rfl, hC, hb⟩
                     unfold ctxV
                     have c4 := Lib.hid (hC.onto HB.out.size)
                     (try have mA4 := Lib.hid (hC.older bA.out.lt))
                     (try have mB4 := Lib.hid (hC.older bB.out.lt))
                     replace HB := Lib.hid (HB.out.trans (hb.mono HB.out.size))
                     (try replace bA := Lib.hid (bA.out.later hb bA.out.lt))
                     (try replace bB := Lib.hid (bB.out.later hb bB.out.lt))
                     (try replace c3 := Lib.hid (c3.out.later hb))
                     clear hC hb
                     go_wp2_with fail
                     refine hK.out _ _ (KS.out _ HB.out) (fun hHeld => ?_)
                     clear hK K
                     try simp only [Act.put, ssA, ssZ, ssS])
                  | (have _q : Hid ((8 : Nat) = 8) := mk
                     clear _q mk hHeld
                     go_simp
                     refine hK.out _ _ (KS.out _ (HB.out.alloc HB.out.size _)) (fun hHeld => ?_)
                     clear hK K
                     try simp only [Act.put, ssA, ssZ, ssS]
                     have kb := (Below.refl z.heap.size z).alloc (Nat.le_refl _) (.cells #[.bool false, .slice none 0 0, .slice none 0 0, .slice none 0 0] 29)
                     have lA := Lib.hid HB.out.size
                     have bA := Lib.hid (Blk.alloc (w := z) (T := 29) [.bool false, .slice none 0 0, .slice none 0 0, .slice none 0 0])
                     (try have mA3 := Lib.hid c3.out.newer)
                     (try have mA4 := Lib.hid c4.out.newer)
                     (try have nAB := Lib.hid (Nat.ne_of_gt bB.out.lt))
                     replace HB := Lib.hid (HB.out.alloc HB.out.size (.cells #[.bool false, .slice none 0 0, .slice none 0 0, .slice none 0 0] 29))
                     (try replace bB := Lib.hid (bB.out.later kb bB.out.lt))
                     (try replace c3 := Lib.hid (c3.out.later kb))
                     (try replace c4 := Lib.hid (c4.out.later kb))
                     clear kb
                     generalize hg : z.heap.size = gA at *
                     clear hg
                     generalize hz : z.alloc (.cells #[.bool false, .slice none 0 0, .slice none 0 0, .slice none 0 0] 29) = z at *
                     clear hz)
                  | (have _q : Hid ((9 : Nat) = 9) := mk
                     clear _q mk hHeld
                     go_simp
                     refine hK.out _ _ (KS.out _ (HB.out.alloc HB.out.size _)) (fun hHeld => ?_)
                     clear hK K
                     try simp only [Act.put, ssA, ssZ, ssS]
                     have kb := (Below.refl z.heap.size z).alloc (Nat.le_refl _) (.cells #[.bool false, .slice none 0 0, .slice none 0 0, .slice none 0 0] 29)
                     have lB := Lib.hid HB.out.size
                     have bB := Lib.hid (Blk.alloc (w := z) (T := 29) [.bool false, .slice none 0 0, .slice none 0 0, .slice none 0 0])
                     (try have mB3 := Lib.hid c3.out.newer)
                     (try have mB4 := Lib.hid c4.out.newer)
                     (try have nAB := Lib.hid (Nat.ne_of_lt bA.out.lt))
                     replace HB := Lib.hid (HB.out.alloc HB.out.size (.cells #[.bool false, .slice none 0 0, .slice none 0 0, .slice none 0 0] 29))
                     (try replace bA := Lib.hid (bA.out.later kb bA.out.lt))
                     (try replace c3 := Lib.hid (c3.out.later kb))
                     (try replace c4 := Lib.hid (c4.out.later kb))
                     clear kb
                     generalize hg : z.heap.size = gB at *
                     clear hg
                     generalize hz : z.alloc (.cells #[.bool false, .slice none 0 0, .slice none 0 0, .slice none 0 0] 29) = z at *
                     clear hz)
                  | (have _q : Hid ((10 : Nat) = 10) := mk
                     clear _q mk hHeld
                     have s0 := bA.out.cell 0 _ rfl
                     have t0 := bA.out.frozen 0
                     have s1 := bA.out.cell 1 _ rfl
                     have t1 := bA.out.frozen 1
                     have s2 := bA.out.cell 2 _ rfl
                     have t2 := bA.out.frozen 2
                     have s3 := bA.out.cell 3 _ rfl
                     have t3 := bA.out.frozen 3
                     go_simp
                     clear s0 s1 s2 s3 t0 t1 t2 t3
                     have HQ := Lib.hid (store4 (v0 := .bool false) (v1 := .slice (some ⟨u3, 0, none⟩) (stepsN (mkSt nm 30 lt).rows) (stepsN (mkSt nm 30 lt).rows)) (v2 := .slice (some ⟨l3, 0, none⟩) (stepsN (mkSt nm 30 lt).rows) (stepsN (mkSt nm 30 lt).rows)) (v3 := .slice (some ⟨k3, 0, none⟩) (mkSt nm 30 lt).ctrs.length (mkSt nm 30 lt).ctrs.length) bA.out HB.out lA.out)
                     refine hK.out _ _ (KS.out _ HQ.out.2.2) (fun hHeld => ?_)
                     clear hK K
                     try simp only [Act.put, ssA, ssZ, ssS]
                     replace HB := Lib.hid HQ.out.2.2
                     replace bA := Lib.hid HQ.out.1
                     replace bB := Lib.hid (bB.out.kept HQ.out.2.1 (fun e => nAB.out (Option.some.inj e)))
                     replace c3 := Lib.hid (c3.out.kept HQ.out.2.1 mA3.out)
                     replace c4 := Lib.hid (c4.out.kept HQ.out.2.1 mA4.out)
                     clear HQ
                     generalize hz : ((((z.setCell ⟨gA, 0, none⟩ (.bool false)).setCell ⟨gA, 1, none⟩ (.slice (some ⟨u3, 0, none⟩) (stepsN (mkSt nm 30 lt).rows) (stepsN (mkSt nm 30 lt).rows))).setCell ⟨gA, 2, none⟩ (.slice (some ⟨l3, 0, none⟩) (stepsN (mkSt nm 30 lt).rows) (stepsN (mkSt nm 30 lt).rows))).setCell ⟨gA, 3, none⟩ (.slice (some ⟨k3, 0, none⟩) (mkSt nm 30 lt).ctrs.length (mkSt nm 30 lt).ctrs.length)) = z at *
                     clear hz)
                  | (have _q : Hid ((11 : Nat) = 11) := mk
                     clear _q mk hHeld
                     have s0 := bB.out.cell 0 _ rfl
                     have t0 := bB.out.frozen 0
                     have s1 := bB.out.cell 1 _ rfl
                     have t1 := bB.out.frozen 1
                     have s2 := bB.out.cell 2 _ rfl
                     have t2 := bB.out.frozen 2
                     have s3 := bB.out.cell 3 _ rfl
                     have t3 := bB.out.frozen 3
                     go_simp
                     clear s0 s1 s2 s3 t0 t1 t2 t3
                     have HQ := Lib.hid (store4 (v0 := .bool false) (v1 := .slice (some ⟨u4, 0, none⟩) (stepsN (mkSt nm 30 lt).rows) (stepsN (mkSt nm 30 lt).rows)) (v2 := .slice (some ⟨l4, 0, none⟩) (stepsN (mkSt nm 30 lt).rows) (stepsN (mkSt nm 30 lt).rows)) (v3 := .slice (some ⟨k4, 0, none⟩) (mkSt nm 30 lt).ctrs.length (mkSt nm 30 lt).ctrs.length) bB.out HB.out lB.out)
                     refine hK.out _ _ (KS.out _ HQ.out.2.2) (fun hHeld => ?_)
                     clear hK K
                     try simp only [Act.put, ssA, ssZ, ssS]
                     replace HB := Lib.hid HQ.out.2.2
                     replace bB := Lib.hid HQ.out.1
                     replace bA := Lib.hid (bA.out.kept HQ.out.2.1 (fun e => nAB.out (Option.some.inj e).symm))
                     replace c3 := Lib.hid (c3.out.kept HQ.out.2.1 mB3.out)
                     replace c4 := Lib.hid (c4.out.kept HQ.out.2.1 mB4.out)
                     clear HQ
                     generalize hz : ((((z.setCell ⟨gB, 0, none⟩ (.bool false)).setCell ⟨gB, 1, none⟩ (.slice (some ⟨u4, 0, none⟩) (stepsN (mkSt nm 30 lt).rows) (stepsN (mkSt nm 30 lt).rows))).setCell ⟨gB, 2, none⟩ (.slice (some ⟨l4, 0, none⟩) (stepsN (mkSt nm 30 lt).rows) (stepsN (mkSt nm 30 lt).rows))).setCell ⟨gB, 3, none⟩ (.slice (some ⟨k4, 0, none⟩) (mkSt nm 30 lt).ctrs.length (mkSt nm 30 lt).ctrs.length)) = z at *
                     clear hz)
                  | (refine wpAnyH_ready (rs := [3]) (by decide +kernel) (by simp) ?_
                     refine AllReadyH.cons rfl (fun K hK => (fun (mk : Hid ((3 : Nat) = 3)) => ?_) (Lib.hid rfl)) AllReadyH.nil)
                  | (refine wpAnyH_ready (rs := [9]) (by decide +kernel) (by simp) ?_
                     refine AllReadyH.cons rfl (fun K hK => (fun (mk : Hid ((9 : Nat) = 9)) => ?_) (Lib.hid rfl)) AllReadyH.nil)
                  | (refine wpAnyH_ready (rs := [8]) (by decide +kernel) (by simp) ?_
                     refine AllReadyH.cons rfl (fun K hK => (fun (mk : Hid ((8 : Nat) = 8)) => ?_) (Lib.hid rfl)) AllReadyH.nil)
                  | (refine wpAnyH_ready (rs := [7]) (by decide +kernel) (by simp) ?_
                     refine AllReadyH.cons rfl (fun K hK => (fun (mk : Hid ((7 : Nat) = 7)) => ?_) (Lib.hid rfl)) AllReadyH.nil)
                  | (refine wpAnyH_ready (rs := [10]) (by decide +kernel) (by simp) ?_
                     refine AllReadyH.cons rfl (fun K hK => (fun (mk : Hid ((10 : Nat) = 10)) => ?_) (Lib.hid rfl)) AllReadyH.nil)
                  | (refine wpAnyH_ready (rs := [11]) (by decide +kernel) (by simp) ?_
                     refine AllReadyH.cons rfl (fun K hK => (fun (mk : Hid ((11 : Nat) = 11)) => ?_) (Lib.hid rfl)) AllReadyH.nil)
                  | (refine wpAnyH_ready (rs := [3, 9]) (by decide +kernel) (by simp) ?_
                     refine AllReadyH.cons rfl (fun K hK => (fun (mk : Hid ((3 : Nat) = 3)) => ?_) (Lib.hid rfl)) (AllReadyH.cons rfl (fun K hK => (fun (mk : Hid ((9 : Nat) = 9)) => ?_) (Lib.hid rfl)) AllReadyH.nil))
                  | (refine wpAnyH_ready (rs := [3, 8]) (by decide +kernel) (by simp) ?_
                     refine AllReadyH.cons rfl (fun K hK => (fun (mk : Hid ((3 : Nat) = 3)) => ?_) (Lib.hid rfl)) (AllReadyH.cons rfl (fun K hK => (fun (mk : Hid ((8 : Nat) = 8)) => ?_) (Lib.hid rfl)) AllReadyH.nil))
                  | (refine wpAnyH_ready (rs := [8, 9]) (by decide +kernel) (by simp) ?_
                     refine AllReadyH.cons rfl (fun K hK => (fun (mk : Hid ((8 : Nat) = 8)) => ?_) (Lib.hid rfl)) (AllReadyH.cons rfl (fun K hK => (fun (mk : Hid ((9 : Nat) = 9)) => ?_) (Lib.hid rfl)) AllReadyH.nil))
                  | (refine wpAnyH_ready (rs := [7, 9]) (by decide +kernel) (by simp) ?_
                     refine AllReadyH.cons rfl (fun K hK => (fun (mk : Hid ((7 : Nat) = 7)) => ?_) (Lib.hid rfl)) (AllReadyH.cons rfl (fun K hK => (fun (mk : Hid ((9 : Nat) = 9)) => ?_) (Lib.hid rfl)) AllReadyH.nil))
                  | (refine wpAnyH_ready (rs := [7, 8]) (by decide +kernel) (by simp) ?_
                     refine AllReadyH.cons rfl (fun K hK => (fun (mk : Hid ((7 : Nat) = 7)) => ?_) (Lib.hid rfl)) (AllReadyH.cons rfl (fun K hK => (fun (mk : Hid ((8 : Nat) = 8)) => ?_) (Lib.hid rfl)) AllReadyH.nil))
                  | (refine wpAnyH_ready (rs := [3, 8, 9]) (by decide +kernel) (by simp) ?_
                     refine AllReadyH.cons rfl (fun K hK => (fun (mk : Hid ((3 : Nat) = 3)) => ?_) (Lib.hid rfl)) (AllReadyH.cons rfl (fun K hK => (fun (mk : Hid ((8 : Nat) = 8)) => ?_) (Lib.hid rfl)) (AllReadyH.cons rfl (fun K hK => (fun (mk : Hid ((9 : Nat) = 9)) => ?_) (Lib.hid rfl)) AllReadyH.nil)))
                  | (refine wpAnyH_ready (rs := [7, 8, 9]) (by decide +kernel) (by simp) ?_
                     refine AllReadyH.cons rfl (fun K hK => (fun (mk : Hid ((7 : Nat) = 7)) => ?_) (Lib.hid rfl)) (AllReadyH.cons rfl (fun K hK => (fun (mk : Hid ((8 : Nat) = 8)) => ?_) (Lib.hid rfl)) (AllReadyH.cons rfl (fun K hK => (fun (mk : Hid ((9 : Nat) = 9)) => ?_) (Lib.hid rfl)) AllReadyH.nil))))
                all_goals
                  refine wpAnyH_done (by decide +kernel) ?_ _
                  go_wp2_with fail
                  go_meet
                  exact ⟨z, gA, gB, u3, l3, k3, u4, l4, k4, rfl, rfl, rfl, bA, bB, c3, c4, HB⟩
              case rest =>
                obtain ⟨w11, g3, g4, u3, l3, k3, u4, l4, k4, rfl, rfl, rfl, Q3, Q4, C3, C4, HB11⟩ := hcut
                have HSN := Lib.hid HP6.out.steps
                have HMN := Lib.hid HP6.out.nctr
                have E1 := Lib.hid (Q1.out.later HB11.out Q1.out.lt)
                have E2 := Lib.hid (Q2.out.later HB11.out Q2.out.lt)
                have D1 := Lib.hid (C1.out.later HB11.out)
                have D2 := Lib.hid (C2.out.later HB11.out)
                have U1 := Lib.hid (fun (wx : World) (hb : Below w11.heap.size w11 wx) => under_yes (ctx_ups (n := (stepsN (mkSt nm 30 lt).rows)) (D1.out.later hb) (by rw [tellF_len, List.length_replicate]) HSN.out) (ctx_ups (n := (stepsN (mkSt nm 30 lt).rows)) (D2.out.later hb) (by rw [tellF_len, List.length_replicate]) HSN.out) (tell_mono 1 2 _ _ _ (or_mono _ _)))
                have U2 := Lib.hid (fun (wx : World) (hb : Below w11.heap.size w11 wx) => under_yes (ctx_lefts (n := (stepsN (mkSt nm 30 lt).rows)) (D1.out.later hb) (by rw [List.length_replicate]) HSN.out) (ctx_lefts (n := (stepsN (mkSt nm 30 lt).rows)) (D2.out.later hb) (by rw [List.length_replicate]) HSN.out) (under_refl _))
                have U3 := Lib.hid (fun (wx : World) (hb : Below w11.heap.size w11 wx) => under_yes (ctx_ups (n := (stepsN (mkSt nm 30 lt).rows)) (C3.out.later hb) (by rw [copyB_len, List.length_replicate]) HSN.out) (ctx_ups (n := (stepsN (mkSt nm 30 lt).rows)) (C4.out.later hb) (by rw [copyB_len, List.length_replicate]) HSN.out) (copy_mono _ (orB_len _ _).symm (or_mono _ _)))
                have U4 := Lib.hid (fun (wx : World) (hb : Below w11.heap.size w11 wx) => under_yes (ctx_lefts (n := (stepsN (mkSt nm 30 lt).rows)) (C3.out.later hb) (by rw [tellF_len, List.length_replicate]) HSN.out) (ctx_lefts (n := (stepsN (mkSt nm 30 lt).rows)) (C4.out.later hb) (by rw [tellF_len, List.length_replicate]) HSN.out) (tell_mono 4 3 _ _ _ (or_mono _ _)))
                have S5 := Lib.hid (fun (wx : World) (hb : Below w11.heap.size w11 wx) => same_ints (m := (mkSt nm 30 lt).ctrs.length) (ctx_cnts (m := (mkSt nm 30 lt).ctrs.length) (C3.out.later hb) (by rw [nxtI_len, copyI_len, List.length_replicate]) HMN.out) (ctx_cnts (m := (mkSt nm 30 lt).ctrs.length) (C4.out.later hb) (by rw [nxtI_len, copyI_len, List.length_replicate]) HMN.out) (by rw [nxtI_len, copyI_len, List.length_replicate]))
                have S6 := Lib.hid (fun (wx : World) (hb : Below w11.heap.size w11 wx) => same_ints (m := (mkSt nm 30 lt).ctrs.length) (ctx_cnts (m := (mkSt nm 30 lt).ctrs.length) (D1.out.later hb) (by rw [List.length_replicate]) HMN.out) (ctx_cnts (m := (mkSt nm 30 lt).ctrs.length) (D2.out.later hb) (by rw [List.length_replicate]) HMN.out) (by rw [List.length_replicate]))
                have HA0 := Lib.hid (Below.refl w11.heap.size w11)
                have HZ := Lib.hid (below_trans (below_trans HB6.out HB9.out) HB11.out)
                clear Q1 Q2 C1 C2 FN1 FN2 DP9 DB9 DX9 DP6 DB6 DX6 HP6 O1 O2
                have fg11 : w11.cell? ⟨g1, 1, none⟩ = some (.slice (some ⟨u1, 0, none⟩) (stepsN (mkSt nm 30 lt).rows) (stepsN (mkSt nm 30 lt).rows)) := (E1.out.later HA0.out E1.out.lt).cell 1 _ rfl
                have fg21 : w11.cell? ⟨g2, 1, none⟩ = some (.slice (some ⟨u2, 0, none⟩) (stepsN (mkSt nm 30 lt).rows) (stepsN (mkSt nm 30 lt).rows)) := (E2.out.later HA0.out E2.out.lt).cell 1 _ rfl
                go_wp2_with (first
                  | (go_at_call 10; (with_reducible refine (U1.out w11 HA0.out).mono ?_); rintro e y1 ⟨rfl, hy⟩; have HA1 := Lib.hid (below_trans HA0.out hy); have fg12 : y1.cell? ⟨g1, 2, none⟩ = some (.slice (some ⟨l1, 0, none⟩) (stepsN (mkSt nm 30 lt).rows) (stepsN (mkSt nm 30 lt).rows)) := (E1.out.later HA1.out E1.out.lt).cell 2 _ rfl; have fg22 : y1.cell? ⟨g2, 2, none⟩ = some (.slice (some ⟨l2, 0, none⟩) (stepsN (mkSt nm 30 lt).rows) (stepsN (mkSt nm 30 lt).rows)) := (E2.out.later HA1.out E2.out.lt).cell 2 _ rfl; clear hy)
                  | (go_at_call 10; (with_reducible refine (U2.out y1 HA1.out).mono ?_); rintro e y2 ⟨rfl, hy⟩; have HA2 := Lib.hid (below_trans HA1.out hy); have fg31 : y2.cell? ⟨g3, 1, none⟩ = some (.slice (some ⟨u3, 0, none⟩) (stepsN (mkSt nm 30 lt).rows) (stepsN (mkSt nm 30 lt).rows)) := (Q3.out.later HA2.out Q3.out.lt).cell 1 _ rfl; have fg41 : y2.cell? ⟨g4, 1, none⟩ = some (.slice (some ⟨u4, 0, none⟩) (stepsN (mkSt nm 30 lt).rows) (stepsN (mkSt nm 30 lt).rows)) := (Q4.out.later HA2.out Q4.out.lt).cell 1 _ rfl; clear hy)
                  | (go_at_call 10; (with_reducible refine (U3.out y2 HA2.out).mono ?_); rintro e y3 ⟨rfl, hy⟩; have HA3 := Lib.hid (below_trans HA2.out hy); have fg32 : y3.cell? ⟨g3, 2, none⟩ = some (.slice (some ⟨l3, 0, none⟩) (stepsN (mkSt nm 30 lt).rows) (stepsN (mkSt nm 30 lt).rows)) := (Q3.out.later HA3.out Q3.out.lt).cell 2 _ rfl; have fg42 : y3.cell? ⟨g4, 2, none⟩ = some (.slice (some ⟨l4, 0, none⟩) (stepsN (mkSt nm 30 lt).rows) (stepsN (mkSt nm 30 lt).rows)) := (Q4.out.later HA3.out Q4.out.lt).cell 2 _ rfl; clear hy)
                  | (go_at_call 10; (with_reducible refine (U4.out y3 HA3.out).mono ?_); rintro e y4 ⟨rfl, hy⟩; have HA4 := Lib.hid (below_trans HA3.out hy); have fg33 : y4.cell? ⟨g3, 3, none⟩ = some (.slice (some ⟨k3, 0, none⟩) (mkSt nm 30 lt).ctrs.length (mkSt nm 30 lt).ctrs.length) := (Q3.out.later HA4.out Q3.out.lt).cell 3 _ rfl; have fg43 : y4.cell? ⟨g4, 3, none⟩ = some (.slice (some ⟨k4, 0, none⟩) (mkSt nm 30 lt).ctrs.length (mkSt nm 30 lt).ctrs.length) := (Q4.out.later HA4.out Q4.out.lt).cell 3 _ rfl; clear hy)
                  | (go_at_call 11; (with_reducible refine (S5.out y4 HA4.out).mono ?_); rintro e y5 ⟨rfl, hy⟩; have HA5 := Lib.hid (below_trans HA4.out hy); have fg13 : y5.cell? ⟨g1, 3, none⟩ = some (.slice (some ⟨k1, 0, none⟩) (mkSt nm 30 lt).ctrs.length (mkSt nm 30 lt).ctrs.length) := (E1.out.later HA5.out E1.out.lt).cell 3 _ rfl; have fg23 : y5.cell? ⟨g2, 3, none⟩ = some (.slice (some ⟨k2, 0, none⟩) (mkSt nm 30 lt).ctrs.length (mkSt nm 30 lt).ctrs.length) := (E2.out.later HA5.out E2.out.lt).cell 3 _ rfl; clear hy)
                  | (go_at_call 11; (with_reducible refine (S6.out y5 HA5.out).mono ?_); rintro e y6 ⟨rfl, hy⟩; have HA6 := Lib.hid (below_trans HA5.out hy); clear hy))
                go_ret
                exact ⟨rfl, below_trans HZ.out HA6.out⟩
  · go_ret
    exact ⟨rfl, H2.out⟩
end
end Go.Proofs.YtcfhggdiccilaaaGreat
