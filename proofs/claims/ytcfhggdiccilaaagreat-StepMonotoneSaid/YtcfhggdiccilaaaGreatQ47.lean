/- Texts of mine in one: Gn2 Pl0 Pl1 Tm0 MoF. -/
import Derived.Test.YtcfhggdiccilaaaGreatQ46
import Derived.Test.YtcfhggdiccilaaaGreatQ38
import Derived.Test.YtcfhggdiccilaaaGreatQ20
import Derived.Lib.SmallJoins
import Derived.Test.YtcfhggdiccilaaaGreatQ01
namespace Go.Proofs.YtcfhggdiccilaaaGreat
section
open Go.RowKit
set_option linter.unusedVariables false
set_option linter.unusedSimpArgs false
def Great14P (most d : Nat) (ls : List (Lx d)) (w : World) (e : Ending) (w' : World) : Prop := ∃ b : Bool, e = .returned (.bool b) ∧ (b = false → ls.length ≤ 4 ∧ ∀ l ∈ ls, sizL d l ≤ most) ∧ Below w.heap.size w w'
set_option maxRecDepth 100000 in
set_option maxHeartbeats 4000000 in
theorem great14_any (most : Nat) (hmo : most ≤ 1000) {d : Nat} {nm : Nm} {N : NmV} {w : World} {la : Option Addr} {n lc : Nat} {ls : List (Lx d)} (hN : NmAt (· < w.heap.size) w N nm) (hdf : nm.df.size ≤ 140737488351232) (hx : ListsAt d (· < w.heap.size) w la n lc ls) :
    Calls Tryz.prog 5 #[.slice la n lc, nmV nm N, .int .i64 most] w (Great14P most d ls w) := by
  have hb0 := (Below.refl w.heap.size w).alloc (Nat.le_refl _) (.cells #[.bool nm.hd, .string nm.df, .slice N.pa N.pn N.pc, .slice N.sa N.sn N.sc] 25)
  have HB0 := Lib.hid hb0
  have D0 := Blk.alloc (w := w) (T := 25) [.bool nm.hd, .string nm.df, .slice N.pa N.pn N.pc, .slice N.sa N.sn N.sc]
  have d0 := D0.cell 0 _ rfl
  have d1 := D0.cell 1 _ rfl
  have d2 := D0.cell 2 _ rfl
  have d3 := D0.cell 3 _ rfl
  have fG := gnames_any (hN.move (w' := w.alloc (.cells #[.bool nm.hd, .string nm.df, .slice N.pa N.pn N.pc, .slice N.sa N.sn N.sc] 25)) (ok' := (· < (w.alloc (.cells #[.bool nm.hd, .string nm.df, .slice N.pa N.pn N.pc, .slice N.sa N.sn N.sc] 25)).heap.size)) (fun b hb => ⟨Nat.lt_of_lt_of_le hb hb0.size, hb0.block b hb⟩)) hdf
  have HX := Lib.hid hx
  have HXN := Lib.hid (show n = ls.length from hx.1)
  have hnm : n ≤ 140737488351232 := hx.2.2.1.2
  have hmI : (most : Int) ≤ 1000 := by omega
  unfold nmV at *
  clear hN hx hb0 D0
  by_cases h1 : 4 < n
  · have q1 : decide ((4 : Int) < (n : Int)) = true := decide_eq_true (by omega)
    go_enter Tryz.func5, Tryz.ntmps5
    go_wp2
    go_ret
    exact ⟨true, rfl, fun h => Bool.noConfusion h, HB0.out⟩
  have q1 : decide ((4 : Int) < (n : Int)) = false := decide_eq_false (by omega)
  go_enter Tryz.func5, Tryz.ntmps5
  go_wp2_with (go_at_call 16; (with_reducible refine fG.mono ?_); rintro e w1 ⟨bn, rfl, hb1⟩; have H1 := Lib.hid (HB0.out.trans (hb1.mono HB0.out.size)); clear fG hb1; cases bn)
  · go_loopw [18] (fun iv wr => ∃ i : Nat, i ≤ n ∧ iv = .int .i64 i ∧ Hid (∀ l ∈ ls.take i, sizL d l ≤ most) ∧ Hid (Below w.heap.size w wr)) (fun iv _ => n - (intOf iv).toNat)
    case atStart => exact ⟨0, Nat.zero_le _, rfl, Lib.hid (fun l hl => by simp at hl), H1⟩
    case round =>
      obtain ⟨i, hi, rfl, HA, HB⟩ := hrel
      by_cases hlt : i < n
      · obtain ⟨k, hk⟩ : ∃ k, ls[i]? = some k := ⟨_, List.getElem?_eq_getElem (by rw [← HXN.out]; exact hlt)⟩
        obtain ⟨b, off, rfl, hb, ka, kn, kc, hk1, hk2⟩ := HX.out.at i k hk
        rw [Nat.mul_one] at hk1
        have u0 : wr.cell? ⟨b, off + i, none⟩ = some (.slice ka kn kc) := (cell_sameS (HB.out.block b hb) _).trans hk1
        have hiI : (0 : Int) ≤ (i : Int) := by omega
        have hiI2 : (i : Int) < (n : Int) := by omega
        have fL := greatG_any most hmo d k ka kn kc wr (RdL.move (fun b hb => ⟨Nat.lt_of_lt_of_le hb HB.out.size, HB.out.block b hb⟩) hk2)
        have HTK := Lib.hid (take_snoc hk)
        clear hk hk1 hk2 hb
        go_wp2_with (go_at_call 17; (with_reducible refine fL.mono ?_); rintro e w2 ⟨bl, rfl, hbl, hb2⟩; have H2 := Lib.hid (HB.out.trans (hb2.mono HB.out.size)); have HBL := Lib.hid hbl; clear fL hb2 hbl; cases bl)
        · go_roundw
          case rel => exact ⟨i + 1, by omega, by go_num, Lib.hid (fun l hl => by
            rw [HTK.out] at hl
            rcases List.mem_append.1 hl with hl | hl
            · exact HA.out l hl
            · obtain rfl := List.mem_singleton.1 hl
              exact (HBL.out (by simp)).2.2), H2⟩
          case measure => simp [intOf]; omega
        · go_ret
          exact ⟨true, rfl, fun h => Bool.noConfusion h, H2.out⟩
      · obtain rfl : i = n := by omega
        have hiI2 : ¬ (i : Int) < (i : Int) := by omega
        go_wp2
        go_ret
        exact ⟨false, rfl, fun _ => ⟨by rw [← HXN.out]; omega, fun l hl => HA.out l (by rw [List.take_of_length_le (by rw [← HXN.out]; exact Nat.le_refl _)]; exact hl)⟩, HB.out⟩
  · go_ret
    exact ⟨true, rfl, fun h => Bool.noConfusion h, H1.out⟩
end

section
open Go.RowKit
set_option linter.unusedVariables false
set_option linter.unusedSimpArgs false
structure PInv (st : PenS) : Prop where
  steps : stepsN st.rows = st.steps
  first : ∀ r ∈ st.rows, r.first ≤ st.steps
  ab : ∀ c ∈ st.ctrs, (-1000000 ≤ c.a ∧ c.a ≤ 1000000) ∧ (-1000000 ≤ c.b ∧ c.b ≤ 1000000)
theorem PInv.ctr {st : PenS} (h : PInv st) {x : CtF} (hx : (-1000000 ≤ x.a ∧ x.a ≤ 1000000) ∧ (-1000000 ≤ x.b ∧ x.b ≤ 1000000)) : PInv { st with ctrs := st.ctrs ++ [x] } :=
  ⟨h.steps, h.first, fun c hc => by
    rcases List.mem_append.1 hc with hc | hc
    · exact h.ab c hc
    · obtain rfl := List.mem_singleton.1 hc; exact hx⟩
theorem penAtom_inv {st : PenS} {a : AtF} (h : PInv st) : PInv (penAtom st a).2 := by
  unfold penAtom
  split
  · exact h
  · exact ⟨h.steps, h.first, h.ab⟩
theorem penElem_inv {nm : Nm} {st : PenS} {name : ByteArray} {ns : Int} {pre : ByteArray} (h : PInv st) : PInv (penElem nm st name ns pre).2 := by
  unfold penElem
  dsimp only
  split
  · exact h
  · exact penAtom_inv h
def withinK (k : Int) : Bool := k == 7 || k == 8 || k == 9 || k == 10
def AbS {L : Type} (P : L → Prop) (s : Flat × L) : Prop := (s.1.kind = 7 → (-1000000 ≤ s.1.a ∧ s.1.a ≤ 1000000) ∧ (-1000000 ≤ s.1.b ∧ s.1.b ≤ 1000000)) ∧ (withinK s.1.kind = true → P s.2)
def AbX {L : Type} (P : L → Prop) (x : List (Int × List (Flat × L))) : Prop := ∀ k ∈ x, ∀ s ∈ k.2, AbS P s
def AbL : (d : Nat) → Lx d → Prop
  | 0, _ => True
  | d + 1, x => ∀ c ∈ (show List (List (Int × List (Flat × Lx d))) from x), AbX (AbL d) c
section
variable {L : Type} {f : L → PenS → List Int × PenS} {nm : Nm} {AbP : L → Prop}
theorem penTerm_inv (hf : ∀ l st, AbP l → PInv st → PInv (f l st).2) (st : PenS) (s : Flat × L) (hs : AbS AbP s) (h : PInv st) : PInv (penTerm f nm st s).2 := by
  obtain ⟨⟨kind, ns, pre, name, op, text, fold, mark, fa, fb⟩, l⟩ := s
  by_cases h1 : kind = 1
  · subst h1
    rw [show penTerm f nm st (⟨1, ns, pre, name, op, text, fold, mark, fa, fb⟩, l) = penElem nm st name ns pre from rfl]
    exact penElem_inv h
  by_cases h2 : kind = 2
  · subst h2
    rw [show penTerm f nm st (⟨2, ns, pre, name, op, text, fold, mark, fa, fb⟩, l) = penElem nm st name ns pre from rfl]
    exact penElem_inv h
  by_cases h3 : kind = 3
  · subst h3
    rw [show penTerm f nm st (⟨3, ns, pre, name, op, text, fold, mark, fa, fb⟩, l) = penPlain st ⟨#[99, 108, 97, 115, 115]⟩ 3 name from rfl]
    exact penAtom_inv h
  by_cases h4 : kind = 4
  · subst h4
    rw [show penTerm f nm st (⟨4, ns, pre, name, op, text, fold, mark, fa, fb⟩, l) = penPlain st ⟨#[105, 100]⟩ 2 name from rfl]
    exact penAtom_inv h
  by_cases h5 : kind = 5
  · subst h5
    rw [show penTerm f nm st (⟨5, ns, pre, name, op, text, fold, mark, fa, fb⟩, l) = penAtom st ⟨2, (spaceF nm ns pre true).1, (spaceF nm ns pre true).2, name, op, text, fold⟩ from rfl]
    exact penAtom_inv h
  by_cases h11 : kind = 11
  · subst h11
    rw [show penTerm f nm st (⟨11, ns, pre, name, op, text, fold, mark, fa, fb⟩, l) = penAtom st ⟨3, false, ⟨#[]⟩, name, 0, ⟨#[]⟩, false⟩ from rfl]
    exact penAtom_inv h
  by_cases h6 : kind = 6
  · subst h6
    rw [show penTerm f nm st (⟨6, ns, pre, name, op, text, fold, mark, fa, fb⟩, l) = (.mk 6 0 [], st) from rfl]
    exact h
  by_cases h8 : kind = 8
  · subst h8
    rw [show penTerm f nm st (⟨8, ns, pre, name, op, text, fold, mark, fa, fb⟩, l) = (tmRows (f l st).1, (f l st).2) from rfl]
    exact hf l st (hs.2 rfl) h
  by_cases h9 : kind = 9
  · subst h9
    rw [show penTerm f nm st (⟨9, ns, pre, name, op, text, fold, mark, fa, fb⟩, l) = (tmRows (f l st).1, (f l st).2) from rfl]
    exact hf l st (hs.2 rfl) h
  by_cases h10 : kind = 10
  · subst h10
    rw [show penTerm f nm st (⟨10, ns, pre, name, op, text, fold, mark, fa, fb⟩, l) = (tmNot (tmRows (f l st).1), (f l st).2) from rfl]
    exact hf l st (hs.2 rfl) h
  by_cases h7 : kind = 7
  · subst h7
    rw [show penTerm f nm st (⟨7, ns, pre, name, op, text, fold, mark, fa, fb⟩, l) = (.mk 5 (f l st).2.ctrs.length [], { (f l st).2 with ctrs := (f l st).2.ctrs ++ [⟨fa, fb, (f l st).1⟩] }) from rfl]
    exact (hf l st (hs.2 rfl) h).ctr (hs.1 rfl)
  by_cases h12 : kind = 12
  · subst h12
    rw [show penTerm f nm st (⟨12, ns, pre, name, op, text, fold, mark, fa, fb⟩, l) = (tmNot (.mk 4 0 [tmNot (.mk 4 0 [(penElem nm st ⟨#[97]⟩ 0 ⟨#[]⟩).1, (penElem nm (penElem nm st ⟨#[97]⟩ 0 ⟨#[]⟩).2 ⟨#[97, 114, 101, 97]⟩ 0 ⟨#[]⟩).1]), tmNot (penPlain (penElem nm (penElem nm st ⟨#[97]⟩ 0 ⟨#[]⟩).2 ⟨#[97, 114, 101, 97]⟩ 0 ⟨#[]⟩).2 ⟨#[104, 114, 101, 102]⟩ 1 ⟨#[]⟩).1]), (penPlain (penElem nm (penElem nm st ⟨#[97]⟩ 0 ⟨#[]⟩).2 ⟨#[97, 114, 101, 97]⟩ 0 ⟨#[]⟩).2 ⟨#[104, 114, 101, 102]⟩ 1 ⟨#[]⟩).2) from rfl]
    exact penAtom_inv (penElem_inv (penElem_inv h))
  have he : penTerm f nm st (⟨kind, ns, pre, name, op, text, fold, mark, fa, fb⟩, l) = (.mk 7 0 [], st) := by
    unfold penTerm
    simp only [h1, h2, h3, h4, h5, h11, h6, h8, h9, h10, h7, h12, if_false, or_self]
  rw [he]
  exact h
theorem penTerms_inv (hf : ∀ l st, AbP l → PInv st → PInv (f l st).2) : ∀ (ys : List (Flat × L)) (st : PenS), (∀ s ∈ ys, AbS AbP s) → PInv st → PInv (penTerms f nm st ys).2
  | [], st, _, h => h
  | s :: r, st, hs, h => penTerms_inv hf r (penTerm f nm st s).2 (fun x hx => hs x (List.mem_cons_of_mem _ hx)) (penTerm_inv hf st s (hs s (List.mem_cons_self ..)) h)
theorem penSteps_inv (hf : ∀ l st, AbP l → PInv st → PInv (f l st).2) : ∀ (x : List (Int × List (Flat × L))) (st : PenS), AbX AbP x → PInv st → PInv (penSteps f nm st x).2
  | [], st, _, h => h
  | k :: r, st, hs, h => penSteps_inv hf r (penTerms f nm st k.2).2 (fun x hx => hs x (List.mem_cons_of_mem _ hx)) (penTerms_inv hf k.2 st (hs k (List.mem_cons_self ..)) h)
theorem penRow_inv (hf : ∀ l st, AbP l → PInv st → PInv (f l st).2) (st : PenS) (x : List (Int × List (Flat × L))) (hs : AbX AbP x) (h : PInv st) : PInv (penRow f nm st x).2 := by
  have h1 := penSteps_inv (nm := nm) hf x st hs h
  have h2 := penSteps_len (f := f) (nm := nm) x st
  refine ⟨?_, fun r hr => ?_, h1.ab⟩
  · show stepsN ((penSteps f nm st x).2.rows ++ [_]) = (penSteps f nm st x).2.steps + x.length
    rw [stepsN_snoc, h1.steps]
    show _ + (penSteps f nm st x).1.length = _
    rw [h2]
  · have hr : r ∈ (penSteps f nm st x).2.rows ++ [⟨(penSteps f nm st x).2.steps, (penSteps f nm st x).1, pseudoF x⟩] := hr
    show r.first ≤ (penSteps f nm st x).2.steps + x.length
    rcases List.mem_append.1 hr with hr | hr
    · exact Nat.le_trans (h1.first r hr) (Nat.le_add_right _ _)
    · obtain rfl := List.mem_singleton.1 hr
      exact Nat.le_add_right _ _
theorem penRows_inv (hf : ∀ l st, AbP l → PInv st → PInv (f l st).2) : ∀ (x : List (List (Int × List (Flat × L)))) (st : PenS), (∀ c ∈ x, AbX AbP c) → PInv st → PInv (penRows f nm st x).2
  | [], st, _, h => h
  | k :: r, st, hs, h => penRows_inv hf r (penRow f nm st k).2 (fun x hx => hs x (List.mem_cons_of_mem _ hx)) (penRow_inv hf st k (hs k (List.mem_cons_self ..)) h)
end
theorem penL_inv (nm : Nm) : ∀ (d : Nat) (x : Lx d) (st : PenS), AbL d x → PInv st → PInv (penL nm d x st).2
  | 0, _, st, _, h => h
  | d + 1, x, st, hs, h => penRows_inv (f := penL nm d) (AbP := AbL d) (fun l st hl h => penL_inv nm d l st hl h) x st hs h
theorem AbL_nil : ∀ (d : Nat) (l : Lx d), lenE d l = 0 → AbL d l
  | 0, _, _ => trivial
  | d + 1, l, h => fun c hc => by
    have h' : List.length (α := List (Int × List (Flat × Lx d))) l = 0 := h
    have : (show List (List (Int × List (Flat × Lx d))) from l) = [] := List.length_eq_zero_iff.1 h'
    have hc' : c ∈ (show List (List (Int × List (Flat × Lx d))) from l) := hc
    rw [this] at hc'
    cases hc'
theorem simpB_within {nm : Nm} {f : Flat} {of inner : Bool} (h : simpB nm f of inner = true) : (f.kind = 7 → (-1000000 ≤ f.a ∧ f.a ≤ 1000000) ∧ (-1000000 ≤ f.b ∧ f.b ≤ 1000000)) ∧ (withinK f.kind = true → of = false ∨ inner = true) := by
  unfold simpB at h
  by_cases h7 : f.kind = 7
  · rw [h7] at h
    simp only [show ¬ (7 : Int) = 1 by decide, show ¬ (7 : Int) = 2 by decide, show ¬ (7 : Int) = 5 by decide, if_false] at h
    split at h
    · cases h
    · simp only [show ¬ ((7 : Int) = 3 ∨ (7 : Int) = 4) by decide, show ¬ (7 : Int) = 11 by decide, show ¬ (7 : Int) = 13 by decide, show ¬ ((7 : Int) = 6 ∨ (7 : Int) = 12) by decide, if_false, if_true] at h
      split at h
      · cases h
      · simp only [smallB, Bool.and_eq_true, decide_eq_true_eq, Bool.or_eq_true, Bool.not_eq_true'] at h
        exact ⟨fun _ => ⟨h.1, h.2.1⟩, fun _ => h.2.2⟩
  · refine ⟨fun h => absurd h h7, fun hw => .inr ?_⟩
    have hk : f.kind = 8 ∨ f.kind = 9 ∨ f.kind = 10 := by
      unfold withinK at hw
      simp only [Bool.or_eq_true, beq_iff_eq] at hw
      omega
    have n1 : ¬ f.kind = 1 := by omega
    have n2 : ¬ f.kind = 2 := by omega
    have n5 : ¬ f.kind = 5 := by omega
    have n34 : ¬ (f.kind = 3 ∨ f.kind = 4) := by omega
    have n11 : ¬ f.kind = 11 := by omega
    have n13 : ¬ f.kind = 13 := by omega
    have n612 : ¬ (f.kind = 6 ∨ f.kind = 12) := by omega
    rw [if_neg n1, if_neg n2, if_neg n5] at h
    by_cases q1 : nsB f = true ∨ condB f = true
    · rw [if_pos q1] at h; cases h
    · rw [if_neg q1, if_neg n34, if_neg n11, if_neg n13] at h
      by_cases q2 : f.name.toList.isEmpty = false
      · rw [if_pos q2] at h; cases h
      · rw [if_neg q2, if_neg n612, if_neg h7, if_pos hk] at h
        exact ((Bool.and_eq_true _ _).mp h).2
theorem right_ab (nm : Nm) : ∀ (d : Nat) (outer : Bool) (l : Lx d), rightL nm d outer l = true → AbL d l
  | 0, _, _, _ => trivial
  | d + 1, outer, l, h => fun c hc k hk s hs => by
    have h1 : (List.all (show List (List (Int × List (Flat × Lx d))) from l) (rightX nm outer (lenE d) (rightL nm d false)) && decide (0 < List.length (show List (List (Int × List (Flat × Lx d))) from l))) = true := h
    have h2 := List.all_eq_true.1 ((Bool.and_eq_true _ _).mp h1).1 c hc
    unfold rightX at h2
    have h3 := List.all_eq_true.1 ((Bool.and_eq_true _ _).mp h2).1
    obtain ⟨i, hi⟩ := List.getElem?_of_mem hk
    have h4 := h3 i (List.mem_range.2 (List.getElem?_eq_some_iff.1 hi).1)
    unfold rightK at h4
    rw [hi] at h4
    have h5 := List.all_eq_true.1 ((Bool.and_eq_true _ _).mp h4).2
    obtain ⟨m, hm⟩ := List.getElem?_of_mem hs
    have h6 := h5 m (List.mem_range.2 (List.getElem?_eq_some_iff.1 hm).1)
    unfold rightM at h6
    rw [hm] at h6
    unfold sOk at h6
    have h7 := simpB_within ((Bool.and_eq_true _ _).mp h6).1
    refine ⟨h7.1, fun hw => ?_⟩
    rcases h7.2 hw with h8 | h8
    · refine AbL_nil d s.2 ?_
      have := of_decide_eq_false h8
      omega
    · exact right_ab nm d false s.2 h8
theorem mkSt_inv (nm : Nm) (d : Nat) (ls : List (Lx d)) (h : ∀ l ∈ ls, checkE nm d l = 0) : PInv (mkSt nm d ls) := by
  unfold mkSt
  suffices hh : ∀ (ls : List (Lx d)) (st : PenS), (∀ l ∈ ls, checkE nm d l = 0) → PInv st → PInv (ls.foldl (stepSt nm d) st) by
    exact hh ls pen0 h ⟨rfl, fun r hr => absurd hr (List.not_mem_nil), fun c hc => absurd hc (List.not_mem_nil)⟩
  intro ls
  induction ls with
  | nil => intro st _ hst; exact hst
  | cons l r ih =>
    intro st hl hst
    refine ih _ (fun x hx => hl x (List.mem_cons_of_mem _ hx)) ?_
    have h0 := hl l (List.mem_cons_self ..)
    have hr : rightL nm d true l = true := by
      unfold checkE at h0
      split at h0
      · exact absurd h0 (by decide)
      · split at h0
        · exact absurd h0 (by decide)
        · split at h0
          · exact absurd h0 (by decide)
          · rename_i hh; exact Bool.not_eq_false _ ▸ (by simpa using hh)
    have h1 := penL_inv nm d l st (right_ab nm d true l hr) hst
    exact ⟨h1.steps, h1.first, h1.ab⟩
theorem plOk_of {nm : Nm} {d : Nat} {ls : List (Lx d)} {w : World} {P : PlV} {base : Nat} (hp : PlanRd (fun b => base ≤ b ∧ b < w.heap.size) w P (mkSt nm d ls)) (hc : ∀ l ∈ ls, checkE nm d l = 0) (ht : (ls.map (cntL d)).sum ≤ 1000000) : PlOk w P (mkSt nm d ls).rows (mkSt nm d ls).ctrs := by
  have hi := mkSt_inv nm d ls hc
  have ht2 : (mkSt nm d ls).tot ≤ 1000000 := Nat.le_trans (mkSt_tot nm d ls).1 ht
  unfold PenS.tot at ht2
  exact ⟨⟨Rg_moves RRo_moves _ _ _ _ _ _ _ _ (fun b hb => ⟨hb.2, rfl⟩) hp.rows, Rg_moves RCt_moves _ _ _ _ _ _ _ _ (fun b hb => ⟨hb.2, rfl⟩) hp.ctrs⟩, by rw [hi.steps]; omega, by omega, fun r hr => by have := hi.first r hr; omega, hi.ab⟩
end

section
open Go.RowKit
set_option linter.unusedVariables false
set_option linter.unusedSimpArgs false
def PlanP (d : Nat) (nm : Nm) (ls : List (Lx d)) (w : World) (e : Ending) (w' : World) : Prop :=
  Below w.heap.size w w' ∧ ∃ (P : PlV) (b : Bool), e = .returned (.tuple #[P.val, .bool b]) ∧ (b = true → (∀ l ∈ ls, checkE nm d l = 0) ∧ PlOk w' P (mkSt nm d ls).rows (mkSt nm d ls).ctrs)
theorem plan_fin {d : Nat} {nm : Nm} {ls : List (Lx d)} {w w' : World} {P : PlV} {b : Bool} (hb : Below w.heap.size w w') (h : b = true → (∀ l ∈ ls, checkE nm d l = 0) ∧ PlOk w' P (mkSt nm d ls).rows (mkSt nm d ls).ctrs) : PlanP d nm ls w (.returned (.tuple #[P.val, .bool b])) w' := ⟨hb, P, b, rfl, h⟩
theorem rightT {nm : Nm} {N : NmV} {d : Nat} (l : Lx d) (a : Option Addr) (n c : Nat) (w' : World) (h1 : NmAt (· < w'.heap.size) w' N nm) (h2 : RdL (· < w'.heap.size) d w' a n c l) : Calls Tryz.prog 42 #[.slice a n c, nmV nm N, .bool true] w' (Told (.bool (rightL nm d true l)) w') := rightq_any nm N d l true a n c w' h1 h2
set_option maxRecDepth 100000 in
set_option maxHeartbeats 4000000 in
theorem plan_any {nm : Nm} {N : NmV} {d : Nat} (hd : d ≤ 1000) (hok : NmOk nm) {la : Option Addr} {n lc : Nat} {w : World} {ls : List (Lx d)} (hN : NmAt (· < w.heap.size) w N nm) (hx : ListsAt d (· < w.heap.size) w la n lc ls) (ht : (ls.map (cntL d)).sum ≤ 1000000) (hl : ls.length ≤ 1000) :
    Calls Tryz.prog 6 #[.slice la n lc, nmV nm N] w (PlanP d nm ls w) := by
  have hb1 := (Below.refl w.heap.size w).alloc (Nat.le_refl _) (.cells #[.bool nm.hd, .string nm.df, .slice N.pa N.pn N.pc, .slice N.sa N.sn N.sc] 25)
  have hb2 := hb1.alloc hb1.size (.cells #[.slice none 0 0, .slice none 0 0, .slice none 0 0, .slice none 0 0, .int .i64 0] 37)
  have d0 := (Blk.alloc (w := w) (T := 25) [.bool nm.hd, .string nm.df, .slice N.pa N.pn N.pc, .slice N.sa N.sn N.sc]).alloc_old (.cells #[.slice none 0 0, .slice none 0 0, .slice none 0 0, .slice none 0 0, .int .i64 0] 37)
  have d1 := Blk.alloc (w := w.alloc (.cells #[.bool nm.hd, .string nm.df, .slice N.pa N.pn N.pc, .slice N.sa N.sn N.sc] 25)) (T := 37) [.slice none 0 0, .slice none 0 0, .slice none 0 0, .slice none 0 0, .int .i64 0]
  rw [show (w.alloc (.cells #[.bool nm.hd, .string nm.df, .slice N.pa N.pn N.pc, .slice N.sa N.sn N.sc] 25)).heap.size = w.heap.size + 1 from by simp] at d1
  obtain ⟨w0, hw0⟩ : ∃ w0, (w.alloc (.cells #[.bool nm.hd, .string nm.df, .slice N.pa N.pn N.pc, .slice N.sa N.sn N.sc] 25)).alloc (.cells #[.slice none 0 0, .slice none 0 0, .slice none 0 0, .slice none 0 0, .int .i64 0] 37) = w0 := ⟨_, rfl⟩
  have hsz : w0.heap.size = w.heap.size + 2 := by rw [← hw0]; simp
  rw [hw0] at hb2 d0 d1
  have y0 := d0.cell 0 _ rfl
  have y1 := d0.cell 1 _ rfl
  have y2 := d0.cell 2 _ rfl
  have y3 := d0.cell 3 _ rfl
  have fM := pmake_any hd hok (fun l a n c w' h1 h2 => rightT l a n c w' h1 h2) (hN.move (w' := w0) (ok' := (· < w0.heap.size)) (fun b hb => ⟨Nat.lt_of_lt_of_le hb hb2.size, hb2.block b hb⟩)) (hx.move (w' := w0) (ok' := (· < w0.heap.size)) (fun b hb => ⟨Nat.lt_of_lt_of_le hb hb2.size, hb2.block b hb⟩)) ht hl
  have HB := Lib.hid hb2
  have HSZ := Lib.hid hsz
  have D1 := Lib.hid d1
  have HT := Lib.hid ht
  unfold nmV at *
  clear hN hx ht hl hb1 hb2 d0 d1 hsz
  go_enter Tryz.func6, Tryz.ntmps6
  go_wp2_with (go_at_call 13; (with_reducible refine fM.mono ?_); rintro e w1 ⟨hb1, hcase⟩; obtain ⟨P, z, rfl, hz⟩ : ∃ (P : PlV) (z : Int), e = .returned (.tuple #[P.val, .int .i64 z]) ∧ (decide (z < 0) = true → (∀ l ∈ ls, checkE nm d l = 0) ∧ PlanRd (fun b => w0.heap.size ≤ b ∧ b < w1.heap.size) w1 P (mkSt nm d ls)) := (by
      rcases hcase with ⟨i, l, _, _, rfl⟩ | ⟨h1, P, rfl, h2⟩
      · exact ⟨_, _, rfl, fun h => by have := of_decide_eq_true h; omega⟩
      · exact ⟨P, _, rfl, fun _ => ⟨h1, h2⟩⟩); obtain ⟨aa, an, ac, ra, rn, rc, ca, cn, cc, pa, pn, pc, st⟩ := P; have HZ := Lib.hid hz; have H1 := Lib.hid hb1; unfold PlV.val; dsimp only; have DP := Lib.hid (Blk.alloc (w := w1) (T := 37) [.slice aa an ac, .slice ra rn rc, .slice ca cn cc, .slice pa pn pc, .int .i64 st]); have p0 := DP.out.cell 0 _ rfl; have p1 := DP.out.cell 1 _ rfl; have p2 := DP.out.cell 2 _ rfl; have p3 := DP.out.cell 3 _ rfl; have p4 := DP.out.cell 4 _ rfl; have hb2 := hb1.alloc (Nat.le_trans (Nat.le_refl _) hb1.size) (.cells #[.slice aa an ac, .slice ra rn rc, .slice ca cn cc, .slice pa pn pc, .int .i64 st] 37); have H2 := Lib.hid hb2; have DC := Lib.hid (D1.out.later hb2 D1.out.lt); have c0 := DC.out.cell 0 _ rfl; have c1 := DC.out.cell 1 _ rfl; have c2 := DC.out.cell 2 _ rfl; have c3 := DC.out.cell 3 _ rfl; have c4 := DC.out.cell 4 _ rfl; have f0 := DC.out.frozen 0; have f1 := DC.out.frozen 1; have f2 := DC.out.frozen 2; have f3 := DC.out.frozen 3; have f4 := DC.out.frozen 4; clear hcase hz hb1 hb2 fM)
  clear p0 p1 p2 p3 p4 c0 c1 c2 c3 c4 f0 f1 f2 f3 f4
  have b0 := DC.out.setCell 0 (.slice aa an ac)
  have b1 := b0.setCell 1 (.slice ra rn rc)
  have b2 := b1.setCell 2 (.slice ca cn cc)
  have b3 := b2.setCell 3 (.slice pa pn pc)
  have b4 := b3.setCell 4 (.int .i64 st)
  have r0 := b0.cell 0 _ rfl
  have r1 := b1.cell 1 _ rfl
  have r2 := b2.cell 2 _ rfl
  have r3 := b3.cell 3 _ rfl
  have r4 := b4.cell 4 _ rfl
  have hg5 := grown_write (grown_write (grown_write (grown_write (grown_write (World.grownBy.refl (w1.alloc (.cells #[.slice aa an ac, .slice ra rn rc, .slice ca cn cc, .slice pa pn pc, .int .i64 st] 37)) (some (w.heap.size + 1))) 0 (.slice aa an ac)) 1 (.slice ra rn rc)) 2 (.slice ca cn cc)) 3 (.slice pa pn pc)) 4 (.int .i64 st)
  have hBW : Below w.heap.size w (w1.alloc (.cells #[.slice aa an ac, .slice ra rn rc, .slice ca cn cc, .slice pa pn pc, .int .i64 st] 37)) := HB.out.trans (H2.out.mono HB.out.size)
  have HBF := Lib.hid (hBW.grown hg5 hBW.size (fun g hg => by have := Option.some.inj hg; omega))
  have HPF := Lib.hid (fun (hb : decide (z < 0) = true) => And.intro (HZ.out hb).1 (plOk_of (base := w.heap.size) (((HZ.out hb).2).move (ok' := fun b => w.heap.size ≤ b ∧ b < _) (fun b hb' => ⟨⟨by have := HSZ.out; omega, Nat.lt_of_lt_of_le (Nat.lt_of_lt_of_le hb'.2 (by simp : w1.heap.size ≤ (w1.alloc (.cells #[.slice aa an ac, .slice ra rn rc, .slice ca cn cc, .slice pa pn pc, .int .i64 st] 37)).heap.size)) hg5.size⟩, (hg5.block b (Nat.lt_of_lt_of_le hb'.2 (by simp)) (fun e => by have := Option.some.inj e; have := HSZ.out; omega)).trans (((Below.refl w1.heap.size w1).alloc (Nat.le_refl _) (.cells #[.slice aa an ac, .slice ra rn rc, .slice ca cn cc, .slice pa pn pc, .int .i64 st] 37)).block b hb'.2)⟩)) (HZ.out hb).1 HT.out))
  clear b0 b1 b2 b3 b4 hBW hg5
  (with_reducible refine bodyPost_ret (v := .tuple #[(PlV.mk aa an ac ra rn rc ca cn cc pa pn pc st).val, .bool (decide (z < 0))]) ?_ rfl (plan_fin HBF.out HPF.out))
  simp [results, Tryz.results6, go_sem, PlV.val, r0, r1, r2, r3, r4]
end

section
open Go.RowKit
set_option linter.unusedVariables false
set_option linter.unusedSimpArgs false
theorem RsOf.map {α β : Type} {ok : Nat → Prop} {sz : Nat} {P : Nat → Nat → α → Prop} {P' : Nat → Nat → β → Prop} {a : Option Addr} {n c : Nat} {xs : List α} (f : α → β) (h : RsOf ok sz P a n c xs) (hp : ∀ x ∈ xs, ∀ b o, ok b → P b o x → P' b o (f x)) : RsOf ok sz P' a n c (xs.map f) := by
  obtain ⟨h1, h2, h3, h4⟩ := h
  refine ⟨by rw [List.length_map]; exact h1, h2, h3, ?_⟩
  rcases h4 with rfl | ⟨b, off, rfl, hb, hc⟩
  · exact .inl rfl
  · refine .inr ⟨b, off, rfl, hb, fun i y hy => ?_⟩
    rw [List.getElem?_map] at hy
    obtain ⟨x, hx, rfl⟩ := Option.map_eq_some_iff.1 hy
    exact hp x (List.mem_of_getElem? hx) _ _ hb (hc i x hx)
theorem sum_mem {α : Type} (f : α → Nat) : ∀ {l : List α} {x : α}, x ∈ l → f x ≤ (l.map f).sum
  | y :: l, x, h => by
    rw [List.map_cons, List.sum_cons]
    rcases List.mem_cons.1 h with rfl | h
    · exact Nat.le_add_right _ _
    · exact Nat.le_trans (sum_mem f h) (Nat.le_add_left _ _)
theorem sum_map_le {α β : Type} (f : β → Nat) (g : α → Nat) (h : α → β) : ∀ (l : List α), (∀ x ∈ l, f (h x) ≤ g x) → ((l.map h).map f).sum ≤ (l.map g).sum
  | [], _ => Nat.le_refl _
  | x :: l, hx => by
    simp only [List.map_cons, List.sum_cons]
    exact Nat.add_le_add (hx x (List.mem_cons_self ..)) (sum_map_le f g h l (fun y hy => hx y (List.mem_cons_of_mem _ hy)))
def trim : (k d : Nat) → Lx d → Lx k
  | 0, _, _ => ()
  | _ + 1, 0, _ => []
  | k + 1, d + 1, l => List.map (fun c => List.map (fun (kk : Int × List (Flat × Lx d)) => (kk.1, List.map (fun (s : Flat × Lx d) => (s.1, trim k d s.2)) kk.2)) c) l
theorem trim_siz : ∀ (k d : Nat) (l : Lx d), sizL k (trim k d l) ≤ sizL d l
  | 0, _, _ => Nat.zero_le _
  | _ + 1, 0, _ => Nat.zero_le _
  | k + 1, d + 1, l => sum_map_le (α := List (Int × List (Flat × Lx d))) (sizX (sizL k)) (sizX (sizL d)) _ l (fun c _ =>
      Nat.add_le_add_left (sum_map_le (sizK (sizL k)) (sizK (sizL d)) (fun (kk : Int × List (Flat × Lx d)) => (kk.1, List.map (fun (s : Flat × Lx d) => (s.1, trim k d s.2)) kk.2)) c (fun kk _ =>
        Nat.add_le_add_left (sum_map_le (sizS (sizL k)) (sizS (sizL d)) (fun (s : Flat × Lx d) => (s.1, trim k d s.2)) kk.2 (fun s _ =>
          Nat.add_le_add_left (trim_siz k d s.2) 1)) 1)) 1)
theorem trim_rd : ∀ (k d : Nat) (l : Lx d) {ok : Nat → Prop} {w : World} {a : Option Addr} {n c : Nat}, sizL d l ≤ k → RdL ok d w a n c l → RdL ok k w a n c (trim k d l)
  | 0, 0, _, _, _, _, _, _, _, h => h
  | 0, d + 1, l, ok, w, a, n, c, hs, h => by
    have h' : RsOf ok 1 (ComplexAt ok (RdL ok d w) w) a n c (show List (List (Int × List (Flat × Lx d))) from l) := h
    have hl : (show List (List (Int × List (Flat × Lx d))) from l) = [] := by
      cases hq : (show List (List (Int × List (Flat × Lx d))) from l) with
      | nil => rfl
      | cons x r =>
        have : (List.map (sizX (sizL d)) (show List (List (Int × List (Flat × Lx d))) from l)).sum ≤ 0 := hs
        rw [hq, List.map_cons, List.sum_cons] at this
        unfold sizX at this
        omega
    rw [hl] at h'
    exact ⟨h'.1, h'.2.2.1.1⟩
  | k + 1, 0, _, ok, w, a, n, c, _, h => ⟨h.1, by rw [h.1]; exact Nat.zero_le _, ⟨h.2, by rw [h.1]; omega⟩, .inl rfl⟩
  | k + 1, d + 1, l, ok, w, a, n, c, hs, h => by
    have h' : RsOf ok 1 (ComplexAt ok (RdL ok d w) w) a n c (show List (List (Int × List (Flat × Lx d))) from l) := h
    have hs' : (List.map (sizX (sizL d)) (show List (List (Int × List (Flat × Lx d))) from l)).sum ≤ k + 1 := hs
    show RsOf ok 1 (ComplexAt ok (RdL ok k w) w) a n c (List.map _ (show List (List (Int × List (Flat × Lx d))) from l))
    refine RsOf.map _ h' (fun cx hcx b o hb hx => ?_)
    obtain ⟨a1, n1, c1, h1, h2⟩ := hx
    refine ⟨a1, n1, c1, h1, RsOf.map _ h2 (fun kk hkk b o hb hx => ?_)⟩
    obtain ⟨h3, a2, n2, c2, h4, h5⟩ := hx
    refine ⟨h3, a2, n2, c2, h4, RsOf.map _ h5 (fun s hs2 b o hb hx => ?_)⟩
    obtain ⟨hF, a3, n3, c3, h6, h7, h8⟩ := hx
    refine ⟨hF, a3, n3, c3, h6, trim_rd k d s.2 ?_ h7, h8⟩
    have e1 := sum_mem (sizX (sizL d)) hcx
    have e2 := sum_mem (sizK (sizL d)) hkk
    have e3 := sum_mem (sizS (sizL d)) hs2
    unfold sizX at e1 hs'
    unfold sizK at e2
    unfold sizS at e3
    unfold sizK sizS at *
    omega
theorem trim_lists {k d : Nat} {ok : Nat → Prop} {w : World} {a : Option Addr} {n c : Nat} {ls : List (Lx d)} (h : ListsAt d ok w a n c ls) (hs : ∀ l ∈ ls, sizL d l ≤ k) : ListsAt k ok w a n c (ls.map (trim k d)) :=
  RsOf.map _ h (fun l hl b o hb hx => by
    obtain ⟨xa, xn, xc, h1, h2⟩ := hx
    exact ⟨xa, xn, xc, h1, trim_rd k d l (hs l hl) h2⟩)
end

section
open Go.RowKit Go.Deep Go.WideShapes Go.Joins
set_option linter.unusedVariables false
set_option linter.unusedSimpArgs false
theorem TryzcellsLB : Tryz.prog.cellsOf 26 = 1 := by kernel_rfl
theorem TryzcellsLI : Tryz.prog.cellsOf 27 = 1 := by kernel_rfl
theorem TryzcellsLS' : Tryz.prog.cellsOf 23 = 1 := by kernel_rfl
theorem TryzbytesBo : 1 ≤ Tryz.prog.bytesOf 4 := of_decide_eq_true (by kernel_rfl)
theorem TryzbytesIn : 1 ≤ Tryz.prog.bytesOf 3 := of_decide_eq_true (by kernel_rfl)
theorem TryzbytesSt' : 1 ≤ Tryz.prog.bytesOf 9 := of_decide_eq_true (by kernel_rfl)
theorem TryzbytesLx : 1 ≤ Tryz.prog.bytesOf 45 := of_decide_eq_true (by kernel_rfl)
theorem wt_strM {H : Type} {P : Program} {t : TypeId} {s : ByteArray} {d : DataW H × List MemPlace} (e : d = (.lit (.string s.data.toList), [])) (h : Wt (H := H) P t d.1) : s.size ≤ 140737488351232 := by
  subst e
  have := wt_string h
  simpa using this
section
variable {H : Type} {enc : TypeId × Value → H} {W : World} {base : Nat} {spare : Nat → Bool} {held : Bool}
theorem bools_of_trod (fuel : Nat) (cs : List Value) (x : DataW H × List MemPlace) (h : DataW.trod enc Tryz.prog W base spare held fuel 26 cs = some x) (hw : Wt Tryz.prog 26 x.1) : ∃ a n c, cs = [.slice a n c] ∧ ∃ bs : List Bool, BoolsAt (· < W.heap.size) W a n c bs := by
  obtain ⟨a, n, c, h1, _, ys, h2⟩ := rsOf_of_trod (α := Bool) 1 Tryz.underlying26 Tryzcells4 (by decide) TryzbytesBo (fun b o y => W.cell? ⟨b, o, none⟩ = some (.bool y)) (fun f' cs' x' b o _ h' _ hc => by
    obtain ⟨q, e, _⟩ := DataW.trod_bool Tryz.underlying4 h'
    subst e
    exact ⟨q, hc 0 _ rfl⟩) h hw
  exact ⟨a, n, c, h1, ys, h2⟩
theorem ints_of_trod (fuel : Nat) (cs : List Value) (x : DataW H × List MemPlace) (h : DataW.trod enc Tryz.prog W base spare held fuel 27 cs = some x) (hw : Wt Tryz.prog 27 x.1) : ∃ a n c, cs = [.slice a n c] ∧ ∃ bs : List Int, IntsAt (· < W.heap.size) W a n c bs := by
  obtain ⟨a, n, c, h1, _, ys, h2⟩ := rsOf_of_trod (α := Int) 1 Tryz.underlying27 Tryzcells3 (by decide) TryzbytesIn (fun b o y => W.cell? ⟨b, o, none⟩ = some (.int .i64 y)) (fun f' cs' x' b o _ h' _ hc => by
    obtain ⟨q, e, _, _⟩ := DataW.trod_int Tryz.underlying3 h'
    subst e
    exact ⟨q, hc 0 _ rfl⟩) h hw
  exact ⟨a, n, c, h1, ys, h2⟩
theorem strs_of_trod (fuel : Nat) (cs : List Value) (x : DataW H × List MemPlace) (h : DataW.trod enc Tryz.prog W base spare held fuel 23 cs = some x) (hw : Wt Tryz.prog 23 x.1) : ∃ a n c, cs = [.slice a n c] ∧ ∃ ss : List ByteArray, RsOf (· < W.heap.size) 1 (TxtAt W) a n c ss ∧ ∀ s ∈ ss, s.size ≤ 140737488351232 := by
  obtain ⟨a, n, c, h1, _, ys, h2⟩ := rsOf_of_trod (α := ByteArray) 1 Tryz.underlying23 Tryzcells9 (by decide) TryzbytesSt' (fun b o y => W.cell? ⟨b, o, none⟩ = some (.string y) ∧ y.size ≤ 140737488351232) (fun f' cs' x' b o _ h' w' hc => by
    obtain ⟨q, e, v, _⟩ := DataW.trod_string Tryz.underlying9 h'
    subst e
    exact ⟨q, hc 0 _ rfl, wt_strM v w'⟩) h hw
  refine ⟨a, n, c, h1, ys, RsOf.imp h2 (fun _ h => h) (fun _ _ _ _ h => h.1), fun s hs => ?_⟩
  obtain ⟨i, hi⟩ := List.getElem?_of_mem hs
  obtain ⟨b, off, _, _, h3⟩ := h2.at i s hi
  exact h3.2
theorem lists_of_trod (fuel : Nat) (cs : List Value) (x : DataW H × List MemPlace) (h : DataW.trod enc Tryz.prog W base spare held fuel 22 cs = some x) (hw : Wt Tryz.prog 22 x.1) : ∃ a n c, cs = [.slice a n c] ∧ ∃ ls : List (Lx (fuel + 1)), ListsAt (fuel + 1) (· < W.heap.size) W a n c ls := by
  obtain ⟨a, n, c, h1, _, ys, h2⟩ := rsOf_of_trod (α := Lx (fuel + 1)) 1 Tryz.underlying22 Tryzcells28 (by decide) TryzbytesLx (fun b o l => ∃ a n c, W.cell? ⟨b, o, none⟩ = some (.slice a n c) ∧ RdL (· < W.heap.size) (fuel + 1) W a n c l) (fun f' cs' x' b o hf h' w' hc => by
    obtain ⟨a', n', c', he, _, z, hz⟩ := rdL_of_trod fuel f' cs' x' (Nat.le_of_lt hf) h' w'
    subst he
    exact ⟨z, a', n', c', hc 0 _ rfl, hz⟩) h hw
  exact ⟨a, n, c, h1, ys, h2⟩
set_option maxRecDepth 100000 in
set_option maxHeartbeats 2000000 in
theorem nm_of_trod (f1 : Nat) (cs1 : List Value) (x1 : DataW H × List MemPlace) (h1 : DataW.trod enc Tryz.prog W base spare held f1 25 cs1 = some x1) (w1 : Wt Tryz.prog 25 x1.1) :
    ∃ (nm : Nm) (N : NmV), cs1 = [.bool nm.hd, .string nm.df, .slice N.pa N.pn N.pc, .slice N.sa N.sn N.sc] ∧ NmAt (· < W.heap.size) W N nm ∧ NmOk nm := by
  obtain ⟨xs1, n1, hn1, hx1, hl1, hxl1, hff1⟩ := DataW.trod_struct Tryz.underlying25 h1
  match xs1, hxl1, cs1, hl1 with
  | [y0, y1, y2, y3], _, [u0, u1, u2, u3], _ =>
    have g0 := hff1 0 _ rfl
    have g1 := hff1 1 _ rfl
    have g2 := hff1 2 _ rfl
    have g3 := hff1 3 _ rfl
    simp [Tryzcells4, Tryzcells9, TryzcellsLS'] at g0 g1 g2 g3
    have hag : Wt Tryz.prog 25 (.agg (([y0, y1, y2, y3] : List (DataW H × List MemPlace)).map (·.1))) := by rw [hx1] at w1; exact w1
    have wv1 := Wt.agg Tryz.underlying25 hag 1 _ y1 rfl rfl
    have wv2 : Wt Tryz.prog 23 y2.1 := Wt.agg Tryz.underlying25 hag 2 _ y2 rfl rfl
    have wv3 : Wt Tryz.prog 23 y3.1 := Wt.agg Tryz.underlying25 hag 3 _ y3 rfl rfl
    obtain ⟨q0, d0, _⟩ := DataW.trod_bool Tryz.underlying4 g0
    obtain ⟨q1, d1, v1, _⟩ := DataW.trod_string Tryz.underlying9 g1
    obtain ⟨a2, m2, c2, e2, z2, r2, s2⟩ := strs_of_trod _ _ _ g2 wv2
    obtain ⟨a3, m3, c3, e3, z3, r3, s3⟩ := strs_of_trod _ _ _ g3 wv3
    simp at d0 d1 e2 e3
    subst d0 d1 e2 e3
    exact ⟨⟨q0, q1, z2, z3⟩, ⟨a2, m2, c2, a3, m3, c3⟩, rfl, ⟨r2, r3⟩, ⟨wt_strM v1 wv1, s2, s3⟩⟩
set_option maxRecDepth 100000 in
set_option maxHeartbeats 2000000 in
theorem cx_of_trod (f1 : Nat) (cs1 : List Value) (x1 : DataW H × List MemPlace) (h1 : DataW.trod enc Tryz.prog W base spare held f1 29 cs1 = some x1) (w1 : Wt Tryz.prog 29 x1.1) :
    ∃ (X : CxV) (up left : List Bool) (cnt : List Int), cs1 = [.bool X.root, .slice X.ua X.un X.uc, .slice X.la X.ln X.lc, .slice X.ka X.kn X.kc] ∧ CxRd (· < W.heap.size) W X up left cnt := by
  obtain ⟨xs1, n1, hn1, hx1, hl1, hxl1, hff1⟩ := DataW.trod_struct Tryz.underlying29 h1
  match xs1, hxl1, cs1, hl1 with
  | [y0, y1, y2, y3], _, [u0, u1, u2, u3], _ =>
    have g0 := hff1 0 _ rfl
    have g1 := hff1 1 _ rfl
    have g2 := hff1 2 _ rfl
    have g3 := hff1 3 _ rfl
    simp [Tryzcells4, TryzcellsLB, TryzcellsLI] at g0 g1 g2 g3
    have hag : Wt Tryz.prog 29 (.agg (([y0, y1, y2, y3] : List (DataW H × List MemPlace)).map (·.1))) := by rw [hx1] at w1; exact w1
    have wv1 : Wt Tryz.prog 26 y1.1 := Wt.agg Tryz.underlying29 hag 1 _ y1 rfl rfl
    have wv2 : Wt Tryz.prog 26 y2.1 := Wt.agg Tryz.underlying29 hag 2 _ y2 rfl rfl
    have wv3 : Wt Tryz.prog 27 y3.1 := Wt.agg Tryz.underlying29 hag 3 _ y3 rfl rfl
    obtain ⟨q0, d0, _⟩ := DataW.trod_bool Tryz.underlying4 g0
    obtain ⟨a1, m1, c1, e1, z1, r1⟩ := bools_of_trod _ _ _ g1 wv1
    obtain ⟨a2, m2, c2, e2, z2, r2⟩ := bools_of_trod _ _ _ g2 wv2
    obtain ⟨a3, m3, c3, e3, z3, r3⟩ := ints_of_trod _ _ _ g3 wv3
    simp at d0 e1 e2 e3
    subst d0 e1 e2 e3
    exact ⟨⟨q0, a1, m1, c1, a2, m2, c2, a3, m3, c3⟩, z1, z2, z3, rfl, ⟨r1, r2, r3⟩⟩
set_option maxRecDepth 100000 in
theorem nm_open {r : Reach} {b0 : Nat} {v : Value} {d : DataW H} {p : List MemPlace} (hv : Value.okWide Tryz.prog W r b0 25 v) (h : DataW.Trod enc Tryz.prog W base spare held 25 v d p) (hw : Wt Tryz.prog 25 d) :
    ∃ (nm : Nm) (N : NmV), v = nmV nm N ∧ NmAt (· < W.heap.size) W N nm ∧ NmOk nm := by
  obtain ⟨cs, rfl, hsz⟩ := okWide_struct Tryz.underlying25 hv
  obtain ⟨fuel, hf⟩ := h
  obtain ⟨nm, N, he, h1, h2⟩ := nm_of_trod fuel _ _ hf hw
  refine ⟨nm, N, ?_, h1, h2⟩
  simp [Value.cells] at he
  have : cs = #[.bool nm.hd, .string nm.df, .slice N.pa N.pn N.pc, .slice N.sa N.sn N.sc] := by
    apply Array.toList_inj.1; exact he
  rw [this]
  rfl
set_option maxRecDepth 100000 in
theorem cx_open {r : Reach} {b0 : Nat} {v : Value} {d : DataW H} {p : List MemPlace} (hv : Value.okWide Tryz.prog W r b0 29 v) (h : DataW.Trod enc Tryz.prog W base spare held 29 v d p) (hw : Wt Tryz.prog 29 d) :
    ∃ (X : CxV) (up left : List Bool) (cnt : List Int), v = X.val ∧ CxRd (· < W.heap.size) W X up left cnt := by
  obtain ⟨cs, rfl, hsz⟩ := okWide_struct Tryz.underlying29 hv
  obtain ⟨fuel, hf⟩ := h
  obtain ⟨X, up, left, cnt, he, h1⟩ := cx_of_trod fuel _ _ hf hw
  refine ⟨X, up, left, cnt, ?_, h1⟩
  simp [Value.cells] at he
  have : cs = #[.bool X.root, .slice X.ua X.un X.uc, .slice X.la X.ln X.lc, .slice X.ka X.kn X.kc] := by
    apply Array.toList_inj.1; exact he
  rw [this]
  rfl
set_option maxRecDepth 100000 in
theorem bl_open {r : Reach} {b0 : Nat} {v : Value} {d : DataW H} {p : List MemPlace} (hv : Value.okWide Tryz.prog W r b0 26 v) (h : DataW.Trod enc Tryz.prog W base spare held 26 v d p) (hw : Wt Tryz.prog 26 d) :
    ∃ (a : Option Addr) (n c : Nat) (bs : List Bool), v = .slice a n c ∧ BoolsAt (· < W.heap.size) W a n c bs := by
  obtain ⟨a, n, c, rfl⟩ := okWide_slice Tryz.underlying26 hv
  obtain ⟨fuel, hf⟩ := h
  obtain ⟨a', n', c', he, bs, h1⟩ := bools_of_trod fuel _ _ hf hw
  simp [Value.cells] at he
  obtain ⟨rfl, rfl, rfl⟩ := he
  exact ⟨a, n, c, bs, rfl, h1⟩
set_option maxRecDepth 100000 in
theorem ll_open {r : Reach} {b0 : Nat} {v : Value} {d : DataW H} {p : List MemPlace} (hv : Value.okWide Tryz.prog W r b0 22 v) (h : DataW.Trod enc Tryz.prog W base spare held 22 v d p) (hw : Wt Tryz.prog 22 d) :
    ∃ (a : Option Addr) (n c : Nat) (k : Nat) (ls : List (Lx k)), v = .slice a n c ∧ ListsAt k (· < W.heap.size) W a n c ls := by
  obtain ⟨a, n, c, rfl⟩ := okWide_slice Tryz.underlying22 hv
  obtain ⟨fuel, hf⟩ := h
  obtain ⟨a', n', c', he, ls, h1⟩ := lists_of_trod fuel _ _ hf hw
  simp [Value.cells] at he
  obtain ⟨rfl, rfl, rfl⟩ := he
  exact ⟨a, n, c, fuel + 1, ls, rfl, h1⟩
end
end
end Go.Proofs.YtcfhggdiccilaaaGreat
