/- Texts of mine in one: St5. -/
import Derived.Test.YtcfhggdiccilaaaGreatQ34
namespace Go.Proofs.YtcfhggdiccilaaaGreat
section
open Go.RowKit
set_option linter.unusedVariables false
set_option linter.unusedSimpArgs false
def rowIx (rows : List RowF) (n : Int) : Int := if n < 0 then -1 else match rows[n.toNat]? with
  | some r => (r.first : Int) + (r.steps.length : Int) - 1
  | none => -1
def rowI (rows : List RowF) (truths : List Bool) (n : Int) : Bool := atBI truths (rowIx rows n)
def RowAtP (x : Int) (w : World) (e : Ending) (w' : World) : Prop :=
  ∃ (f sn sc : Nat) (sa : Option Addr) (ps : ByteArray), e = .returned (.agg #[.int .i64 f, .slice sa sn sc, .string ps]) ∧ (f : Int) + (sn : Int) - 1 = x ∧ (f ≤ 1000000 ∧ sn ≤ 1000000) ∧ Below w.heap.size w w'
set_option maxRecDepth 100000 in
set_option maxHeartbeats 1000000 in
theorem atr_any {w : World} {a : Option Addr} {n c : Nat} {rows : List RowF} (h : Rg 3 roCells RRo (· < w.heap.size) w a n c rows) (hs : stepsN rows ≤ 1000000) (hf : ∀ r ∈ rows, r.first ≤ 1000000) (i : Int) :
    Calls Tryz.prog 46 #[.slice a n c, .int .i64 i] w (RowAtP (rowIx rows i) w) := by
  have hn : n = rows.length := h.1
  have hb0 := (Below.refl w.heap.size w).alloc (Nat.le_refl _) (.cells #[.int .i64 0, .slice none 0 0, .string ⟨#[]⟩] 78)
  have HB0 := Lib.hid hb0
  have D0 := Lib.hid (show Blk (w.alloc (.cells #[.int .i64 0, .slice none 0 0, .string ⟨#[]⟩] 78)) w.heap.size [.int .i64 0, .slice none 0 0, .string ⟨#[]⟩] 78 from Blk.alloc [.int .i64 0, .slice none 0 0, .string ⟨#[]⟩] _)
  have d0 := D0.out.cell 0 _ rfl
  have d1 := D0.out.cell 1 _ rfl
  have d2 := D0.out.cell 2 _ rfl
  have g0 := D0.out.frozen 0
  have g1 := D0.out.frozen 1
  have g2 := D0.out.frozen 2
  by_cases h0 : i < 0
  · have q0 : decide (i < 0) = true := decide_eq_true h0
    rw [show rowIx rows i = -1 from by unfold rowIx; rw [if_pos h0]]
    clear h
    go_enter Tryz.func46, Tryz.ntmps46
    go_wp2
    refine bodyPost_ret (v := .agg #[.int .i64 0, .slice none 0 0, .string ⟨#[]⟩]) (by simp [results, Tryz.results46, go_sem, d0, d1, d2]) rfl ⟨0, 0, 0, none, ⟨#[]⟩, rfl, by omega, by omega, HB0.out⟩
  have q0 : decide (i < 0) = false := decide_eq_false h0
  by_cases h1 : (n : Int) ≤ i
  · have q1 : decide ((n : Int) ≤ i) = true := decide_eq_true h1
    rw [show rowIx rows i = -1 from by unfold rowIx; rw [if_neg h0, List.getElem?_eq_none (by omega)]]
    clear h
    go_enter Tryz.func46, Tryz.ntmps46
    go_wp2
    refine bodyPost_ret (v := .agg #[.int .i64 0, .slice none 0 0, .string ⟨#[]⟩]) (by simp [results, Tryz.results46, go_sem, d0, d1, d2]) rfl ⟨0, 0, 0, none, ⟨#[]⟩, rfl, by omega, by omega, HB0.out⟩
  have q1 : decide ((n : Int) ≤ i) = false := decide_eq_false h1
  obtain ⟨k, rfl⟩ : ∃ k : Nat, i = (k : Int) := ⟨i.toNat, by omega⟩
  obtain ⟨r, hr⟩ : ∃ r, rows[k]? = some r := ⟨_, List.getElem?_eq_getElem (by omega)⟩
  obtain ⟨b, off, rfl, hb, sa, sn, sc, hc, hk⟩ := h.at k r hr
  have u0 : (w.alloc (.cells #[.int .i64 0, .slice none 0 0, .string ⟨#[]⟩] 78)).cell? ⟨b, off + k * 3, none⟩ = some (.int .i64 (r.first : Nat)) := (HB0.out.cell (p := ⟨b, off + k * 3, none⟩) hb).trans (hc 0 _ rfl)
  have u1 : (w.alloc (.cells #[.int .i64 0, .slice none 0 0, .string ⟨#[]⟩] 78)).cell? ⟨b, off + k * 3 + 1, none⟩ = some (.slice sa sn sc) := (HB0.out.cell (p := ⟨b, off + k * 3 + 1, none⟩) hb).trans (hc 1 _ rfl)
  have u2 : (w.alloc (.cells #[.int .i64 0, .slice none 0 0, .string ⟨#[]⟩] 78)).cell? ⟨b, off + k * 3 + 2, none⟩ = some (.string r.pseudo) := (HB0.out.cell (p := ⟨b, off + k * 3 + 2, none⟩) hb).trans (hc 2 _ rfl)
  have hi1 : (0 : Int) ≤ (k : Int) := by omega
  have hi2 : (k : Int) < (n : Int) := by omega
  have HIX := Lib.hid (show rowIx rows (k : Int) = (r.first : Int) + (sn : Int) - 1 from by unfold rowIx; rw [if_neg h0, show ((k : Int)).toNat = k from rfl, hr, hk.1])
  have HFB := Lib.hid (show r.first ≤ 1000000 ∧ sn ≤ 1000000 from ⟨hf r (List.mem_of_getElem? hr), by
    have h1 := stepsN_take rows (k + 1)
    rw [take_snoc hr, stepsN_snoc, ← hk.1] at h1
    omega⟩)
  rw [HIX.out]
  clear h hr hc hk hb hb0
  go_enter Tryz.func46, Tryz.ntmps46
  go_wp2
  have E0 := Blk.alloc (w := w) (T := 78) [.int .i64 (r.first : Nat), .slice sa sn sc, .string r.pseudo]
  have e0 := E0.cell 0 _ rfl
  have e1 := E0.cell 1 _ rfl
  have e2 := E0.cell 2 _ rfl
  refine bodyPost_ret (v := .agg #[.int .i64 (r.first : Nat), .slice sa sn sc, .string r.pseudo]) (by simp [results, Tryz.results46, go_sem, e0, e1, e2]) rfl ⟨r.first, sn, sc, sa, r.pseudo, rfl, rfl, HFB.out, (Below.refl w.heap.size w).alloc (Nat.le_refl _) _⟩
def fitC (P : PlV) (ta : Option Addr) (tn tc : Nat) : List Value := [.slice P.aa P.an P.ac, .slice P.ra P.rn P.rc, .slice P.ca P.cn P.cc, .slice P.la P.ln P.lc, .int .i64 P.st, .slice ta tn tc]
set_option maxRecDepth 100000 in
set_option maxHeartbeats 2000000 in
theorem row5_any {w : World} {g : Nat} {P : PlV} {rows : List RowF} {ctrs : List CtF} {ta : Option Addr} {tn tc : Nat} {truths : List Bool} (hg : Blk w g (fitC P ta tn tc) 58) (h : PlRd (· < w.heap.size) w P rows ctrs) (hs : stepsN rows ≤ 1000000) (hf : ∀ r ∈ rows, r.first ≤ 1000000) (ht : BoolsAt (· < w.heap.size) w ta tn tc truths) (i : Int) :
    Calls Tryz.prog 33 #[.pointer (some ⟨g, 0, none⟩), .int .i64 i] w (Told (.bool (rowI rows truths i)) w) := by
  have g1 := hg.cell 1 _ rfl
  have g5 := hg.cell 5 _ rfl
  have fR := atr_any h.rows hs hf i
  have HT := Lib.hid ht
  have HG := Lib.hid hg
  have HD := Lib.hid (show rowI rows truths i = atBI truths (rowIx rows i) from rfl)
  rw [HD.out]
  obtain ⟨aa, an, ac, ra, rn, rc, ca, cn, cc, la, ln, lc, st⟩ := P
  unfold fitC at *
  dsimp only at *
  clear h hs hf ht hg
  generalize rowIx rows i = x at *
  go_enter Tryz.func33, Tryz.ntmps33
  go_wp2_with (go_at_call 46; (with_reducible refine fR.mono ?_); rintro e w1 ⟨f, sn, sc, sa, ps, rfl, hx1, ⟨hf1, hsn⟩, hb1⟩; have H1 := Lib.hid hb1; clear fR)
  have hb2 := hb1.alloc hb1.size (.cells #[.int .i64 f, .slice sa sn sc, .string ps] 78)
  have E0 := Blk.alloc (w := w1) (T := 78) [.int .i64 f, .slice sa sn sc, .string ps]
  have e0 := E0.cell 0 _ rfl
  have e1 := E0.cell 1 _ rfl
  have e5 := (HG.out.later hb2 HG.out.lt).cell 5 _ rfl
  have H2 := Lib.hid hb2
  have FB := Lib.hid (fun (wx : World) (hb : Below w.heap.size w wx) => atb_any (w := wx) (HT.out.move (ok' := (· < wx.heap.size)) (fun b h => ⟨Nat.lt_of_lt_of_le h hb.size, hb.block b h⟩)) x)
  generalize hw2 : w1.alloc (.cells #[.int .i64 f, .slice sa sn sc, .string ps] 78) = w2 at *
  generalize hgr : w1.heap.size = gr at *
  clear hb1 hb2 E0 hw2 hgr
  subst hx1
  have hw1 : IntKind.i64.wrap ((f : Int) + (sn : Int)) = (f : Int) + (sn : Int) := by unfold IntKind.wrap; simp [IntKind.bits, IntKind.signed]; omega
  have hw2 : IntKind.i64.wrap ((f : Int) + (sn : Int) - 1) = (f : Int) + (sn : Int) - 1 := by unfold IntKind.wrap; simp [IntKind.bits, IntKind.signed]; omega
  go_region_with (go_at_call 31; (with_reducible refine (FB.out _ (H2.out.drew)).mono ?_); rintro e w3 ⟨rfl, hb3⟩)
  all_goals
    have H3 := Lib.hid (H2.out.drew.trans (hb3.mono H2.out.drew.size))
    go_wp2
    go_ret
    exact ⟨rfl, H3.out⟩
end
end Go.Proofs.YtcfhggdiccilaaaGreat
