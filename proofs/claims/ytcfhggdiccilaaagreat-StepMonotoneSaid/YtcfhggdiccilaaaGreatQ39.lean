/- Texts of mine in one: Fpk. -/
import Derived.Deep.DeepCutAuto
import Derived.Test.YtcfhggdiccilaaaGreatQ38
import Derived.Test.YtcfhggdiccilaaaGreatQ19
import Derived.Test.YtcfhggdiccilaaaGreatQ34
namespace Go.Proofs.YtcfhggdiccilaaaGreat
section
open Go.RowKit
set_option linter.unusedVariables false
set_option linter.unusedSimpArgs false
section
variable {L : Type} {f : L → PenS → List Int × PenS} {nm : Nm}
theorem penAtom_lists (st : PenS) (a : AtF) : (penAtom st a).2.lists = st.lists := by unfold penAtom; split <;> rfl
theorem penElem_lists (nm : Nm) (st : PenS) (name : ByteArray) (ns : Int) (pre : ByteArray) : (penElem nm st name ns pre).2.lists = st.lists := by
  unfold penElem
  dsimp only
  split
  · rfl
  · exact penAtom_lists _ _
theorem penTerm_lists (hf : ∀ l st, (f l st).2.lists = st.lists) (st : PenS) (s : Flat × L) : (penTerm f nm st s).2.lists = st.lists := by
  obtain ⟨⟨kind, ns, pre, name, op, text, fold, mark, fa, fb⟩, l⟩ := s
  have hl := hf l st
  by_cases h1 : kind = 1
  · subst h1
    rw [show penTerm f nm st (⟨1, ns, pre, name, op, text, fold, mark, fa, fb⟩, l) = penElem nm st name ns pre from rfl]
    exact penElem_lists _ _ _ _ _
  by_cases h2 : kind = 2
  · subst h2
    rw [show penTerm f nm st (⟨2, ns, pre, name, op, text, fold, mark, fa, fb⟩, l) = penElem nm st name ns pre from rfl]
    exact penElem_lists _ _ _ _ _
  by_cases h3 : kind = 3
  · subst h3
    rw [show penTerm f nm st (⟨3, ns, pre, name, op, text, fold, mark, fa, fb⟩, l) = penPlain st ⟨#[99, 108, 97, 115, 115]⟩ 3 name from rfl]
    exact penAtom_lists _ _
  by_cases h4 : kind = 4
  · subst h4
    rw [show penTerm f nm st (⟨4, ns, pre, name, op, text, fold, mark, fa, fb⟩, l) = penPlain st ⟨#[105, 100]⟩ 2 name from rfl]
    exact penAtom_lists _ _
  by_cases h5 : kind = 5
  · subst h5
    rw [show penTerm f nm st (⟨5, ns, pre, name, op, text, fold, mark, fa, fb⟩, l) = penAtom st ⟨2, (spaceF nm ns pre true).1, (spaceF nm ns pre true).2, name, op, text, fold⟩ from rfl]
    exact penAtom_lists _ _
  by_cases h11 : kind = 11
  · subst h11
    rw [show penTerm f nm st (⟨11, ns, pre, name, op, text, fold, mark, fa, fb⟩, l) = penAtom st ⟨3, false, ⟨#[]⟩, name, 0, ⟨#[]⟩, false⟩ from rfl]
    exact penAtom_lists _ _
  by_cases h6 : kind = 6
  · subst h6
    rw [show penTerm f nm st (⟨6, ns, pre, name, op, text, fold, mark, fa, fb⟩, l) = (.mk 6 0 [], st) from rfl]
  by_cases h8 : kind = 8
  · subst h8
    rw [show penTerm f nm st (⟨8, ns, pre, name, op, text, fold, mark, fa, fb⟩, l) = (tmRows (f l st).1, (f l st).2) from rfl]
    exact hl
  by_cases h9 : kind = 9
  · subst h9
    rw [show penTerm f nm st (⟨9, ns, pre, name, op, text, fold, mark, fa, fb⟩, l) = (tmRows (f l st).1, (f l st).2) from rfl]
    exact hl
  by_cases h10 : kind = 10
  · subst h10
    rw [show penTerm f nm st (⟨10, ns, pre, name, op, text, fold, mark, fa, fb⟩, l) = (tmNot (tmRows (f l st).1), (f l st).2) from rfl]
    exact hl
  by_cases h7 : kind = 7
  · subst h7
    rw [show penTerm f nm st (⟨7, ns, pre, name, op, text, fold, mark, fa, fb⟩, l) = (.mk 5 (f l st).2.ctrs.length [], { (f l st).2 with ctrs := (f l st).2.ctrs ++ [⟨fa, fb, (f l st).1⟩] }) from rfl]
    exact hl
  by_cases h12 : kind = 12
  · subst h12
    rw [show penTerm f nm st (⟨12, ns, pre, name, op, text, fold, mark, fa, fb⟩, l) = (tmNot (.mk 4 0 [tmNot (.mk 4 0 [(penElem nm st ⟨#[97]⟩ 0 ⟨#[]⟩).1, (penElem nm (penElem nm st ⟨#[97]⟩ 0 ⟨#[]⟩).2 ⟨#[97, 114, 101, 97]⟩ 0 ⟨#[]⟩).1]), tmNot (penPlain (penElem nm (penElem nm st ⟨#[97]⟩ 0 ⟨#[]⟩).2 ⟨#[97, 114, 101, 97]⟩ 0 ⟨#[]⟩).2 ⟨#[104, 114, 101, 102]⟩ 1 ⟨#[]⟩).1]), (penPlain (penElem nm (penElem nm st ⟨#[97]⟩ 0 ⟨#[]⟩).2 ⟨#[97, 114, 101, 97]⟩ 0 ⟨#[]⟩).2 ⟨#[104, 114, 101, 102]⟩ 1 ⟨#[]⟩).2) from rfl]
    exact (penAtom_lists _ _).trans ((penElem_lists _ _ _ _ _).trans (penElem_lists _ _ _ _ _))
  have he : penTerm f nm st (⟨kind, ns, pre, name, op, text, fold, mark, fa, fb⟩, l) = (.mk 7 0 [], st) := by
    unfold penTerm
    simp only [h1, h2, h3, h4, h5, h11, h6, h8, h9, h10, h7, h12, if_false, or_self]
  rw [he]
  done
theorem penTerms_lists (hf : ∀ l st, (f l st).2.lists = st.lists) : ∀ (ys : List (Flat × L)) (st : PenS), (penTerms f nm st ys).2.lists = st.lists
  | [], st => rfl
  | s :: r, st => (penTerms_lists hf r (penTerm f nm st s).2).trans (penTerm_lists hf st s)
theorem penSteps_lists (hf : ∀ l st, (f l st).2.lists = st.lists) : ∀ (x : List (Int × List (Flat × L))) (st : PenS), (penSteps f nm st x).2.lists = st.lists
  | [], st => rfl
  | k :: r, st => (penSteps_lists hf r (penTerms f nm st k.2).2).trans (penTerms_lists hf k.2 st)
theorem penRows_lists (hf : ∀ l st, (f l st).2.lists = st.lists) : ∀ (x : List (List (Int × List (Flat × L)))) (st : PenS), (penRows f nm st x).2.lists = st.lists
  | [], st => rfl
  | k :: r, st => (penRows_lists hf r (penRow f nm st k).2).trans (penSteps_lists hf k st)
end
theorem penL_lists (nm : Nm) : ∀ (d : Nat) (x : Lx d) (st : PenS), (penL nm d x st).2.lists = st.lists
  | 0, _, st => rfl
  | d + 1, x, st => penRows_lists (f := penL nm d) (fun l st => penL_lists nm d l st) x st
def stepSt (nm : Nm) (d : Nat) (st : PenS) (l : Lx d) : PenS := { (penL nm d l st).2 with lists := (penL nm d l st).2.lists ++ [(penL nm d l st).1] }
def mkSt (nm : Nm) (d : Nat) (ls : List (Lx d)) : PenS := ls.foldl (stepSt nm d) pen0
theorem mkSt_snoc (nm : Nm) (d : Nat) (ls : List (Lx d)) (l : Lx d) : mkSt nm d (ls ++ [l]) = stepSt nm d (mkSt nm d ls) l := by unfold mkSt; rw [List.foldl_append]; rfl
theorem stepSt_tot (nm : Nm) (d : Nat) (st : PenS) (l : Lx d) : (stepSt nm d st l).tot ≤ st.tot + cntL d l := penL_tot nm d l st
theorem mkSt_tot (nm : Nm) (d : Nat) (ls : List (Lx d)) : (mkSt nm d ls).tot ≤ (ls.map (cntL d)).sum ∧ (mkSt nm d ls).lists.length = ls.length := by
  suffices h : ∀ (ls : List (Lx d)) (st : PenS), (ls.foldl (stepSt nm d) st).tot ≤ st.tot + (ls.map (cntL d)).sum ∧ (ls.foldl (stepSt nm d) st).lists.length = st.lists.length + ls.length by
    have := h ls pen0
    unfold mkSt
    rw [show pen0.tot = 0 from rfl, show pen0.lists.length = 0 from rfl] at this
    omega
  intro ls
  induction ls with
  | nil => intro st; exact ⟨Nat.le_refl _, rfl⟩
  | cons l r ih =>
    intro st
    have h1 := ih (stepSt nm d st l)
    have h2 := stepSt_tot nm d st l
    have h3 : (stepSt nm d st l).lists.length = st.lists.length + 1 := by
      unfold stepSt
      rw [List.length_append, penL_lists]
      rfl
    rw [List.foldl_cons, List.map_cons, List.sum_cons, List.length_cons]
    omega
def ListsAt (d : Nat) (ok : Nat → Prop) (w : World) (a : Option Addr) (n c : Nat) (ls : List (Lx d)) : Prop :=
  RsOf ok 1 (fun b o (l : Lx d) => ∃ a n c, w.cell? ⟨b, o, none⟩ = some (.slice a n c) ∧ RdL ok d w a n c l) a n c ls
theorem ListsAt.move {d : Nat} {ok ok' : Nat → Prop} {w w' : World} {a : Option Addr} {n c : Nat} {ls : List (Lx d)} (ho : ∀ b, ok b → ok' b ∧ w'.heap[b]? = w.heap[b]?) (h : ListsAt d ok w a n c ls) : ListsAt d ok' w' a n c ls :=
  RsOf.imp h (fun b hb => (ho b hb).1) (fun b o x hb hx => by
    obtain ⟨xa, xn, xc, h1, h2⟩ := hx
    exact ⟨xa, xn, xc, (cell_sameS (ho b hb).2 _).trans h1, RdL.move ho h2⟩)
def nilV : PV := ⟨.slice none 0 0, .slice none 0 0, .slice none 0 0, .slice none 0 0⟩
def aCel (x : AtF) (a : Option Addr) (n c : Nat) : List Value := atCells x
def RTr {α : Type} (ok : Nat → Prop) (w : World) (a : Option Addr) (n c : Nat) (x : α) : Prop := True
structure PlanRd (ok : Nat → Prop) (w : World) (P : PlV) (st : PenS) : Prop where
  atoms : Rg 7 aCel RTr ok w P.aa P.an P.ac st.atoms
  rows : Rg 3 roCells RRo ok w P.ra P.rn P.rc st.rows
  ctrs : Rg 3 ctCells RCt ok w P.ca P.cn P.cc st.ctrs
  lists : Rg 1 liCells RLi ok w P.la P.ln P.lc st.lists
  steps : P.st = (st.steps : Nat)
theorem PlanRd.move {ok ok' : Nat → Prop} {w w' : World} {P : PlV} {st : PenS} (h : PlanRd ok w P st) (ho : ∀ b, ok b → ok' b ∧ w'.heap[b]? = w.heap[b]?) : PlanRd ok' w' P st :=
  ⟨Rg_moves (R := RTr) (fun _ _ _ _ _ _ _ _ _ _ => trivial) _ _ _ _ _ _ _ _ ho h.atoms, Rg_moves RRo_moves _ _ _ _ _ _ _ _ ho h.rows, Rg_moves RCt_moves _ _ _ _ _ _ _ _ ho h.ctrs, Rg_moves RLi_moves _ _ _ _ _ _ _ _ ho h.lists, h.steps⟩
theorem PenAt.plan {w : World} {p base : Nat} {N : NmV} {nm : Nm} {st : PenS} {V : PV} (h : PenAt w p base N nm st V []) (ht : st.tot ≤ 1000000) (hl : st.lists.length ≤ 1000) :
    ∃ P : PlV, V.va = .slice P.aa P.an P.ac ∧ V.vr = .slice P.ra P.rn P.rc ∧ V.vc = .slice P.ca P.cn P.cc ∧ V.vl = .slice P.la P.ln P.lc ∧ PlanRd (fun b => base ≤ b ∧ b < w.heap.size) w P st := by
  have h1 : st.atoms.length ≤ 1000000 ∧ st.rows.length ≤ 1000000 ∧ st.ctrs.length ≤ 1000000 := by unfold PenS.tot at ht; omega
  obtain ⟨a1, c1, e1, r1⟩ := RowK.rd (cel := aCel) (R := RTr) (T := 156) (sz := 7) (ok := fun _ => False) (ok' := fun b => base ≤ b ∧ b < w.heap.size) (w := w) (base := base) (v := V.va) (out := st.atoms) (fun _ _ _ _ _ _ _ _ _ _ => trivial) (fun _ _ _ _ => rfl)
    ⟨st.atoms.map fun x => (x, none, 0, 0), by simp [Function.comp_def], by simpa [List.flatMap_map, aCel] using h.atoms, fun _ _ => trivial⟩ (Nat.le_trans h1.1 (by omega)) (fun _ h => h.elim) (fun g hg => owns_own h.atoms hg)
  obtain ⟨a2, c2, e2, r2⟩ := RowK.rd (cel := roCells) (sz := 3) RRo_moves (fun _ _ _ _ => rfl) (ok := okE base w (V.own ++ [])) (ok' := fun b => base ≤ b ∧ b < w.heap.size) h.rows (Nat.le_trans h1.2.1 (by omega)) (fun b h => ⟨h.1, h.2.1⟩) (fun g hg => h.rows.own hg)
  obtain ⟨a3, c3, e3, r3⟩ := RowK.rd (cel := ctCells) (sz := 3) RCt_moves (fun _ _ _ _ => rfl) (ok := okE base w (V.own ++ [])) (ok' := fun b => base ≤ b ∧ b < w.heap.size) h.ctrs (Nat.le_trans h1.2.2 (by omega)) (fun b h => ⟨h.1, h.2.1⟩) (fun g hg => h.ctrs.own hg)
  obtain ⟨a4, c4, e4, r4⟩ := RowK.rd (cel := liCells) (sz := 1) RLi_moves (fun _ _ _ _ => rfl) (ok := okE base w (V.own ++ [])) (ok' := fun b => base ≤ b ∧ b < w.heap.size) h.lists (Nat.le_trans hl (by omega)) (fun b h => ⟨h.1, h.2.1⟩) (fun g hg => h.lists.own hg)
  exact ⟨⟨a1, _, c1, a2, _, c2, a3, _, c3, a4, _, c4, (st.steps : Nat)⟩, e1, e2, e3, e4, r1, r2, r3, r4, rfl⟩
def zeroPl : PlV := ⟨none, 0, 0, none, 0, 0, none, 0, 0, none, 0, 0, 0⟩
def MakeP (d : Nat) (nm : Nm) (ls : List (Lx d)) (w : World) (e : Ending) (w' : World) : Prop :=
  Below w.heap.size w w' ∧ ((∃ (i : Nat) (l : Lx d), ls[i]? = some l ∧ checkE nm d l ≠ 0 ∧ e = .returned (.tuple #[zeroPl.val, .int .i64 i])) ∨
    ((∀ l ∈ ls, checkE nm d l = 0) ∧ ∃ P : PlV, e = .returned (.tuple #[P.val, .int .i64 (-1)]) ∧ PlanRd (fun b => w.heap.size ≤ b ∧ b < w'.heap.size) w' P (mkSt nm d ls)))
theorem make_bad {d : Nat} {nm : Nm} {ls : List (Lx d)} {w w' : World} {j : Nat} {k : Lx d} (hb : Below w.heap.size w w') (hk : ls[j]? = some k) (hc : ¬ checkE nm d k = 0) : MakeP d nm ls w (.returned (.tuple #[zeroPl.val, .int .i64 (j : Nat)])) w' := ⟨hb, .inl ⟨j, k, hk, hc, rfl⟩⟩
theorem make_good {d : Nat} {nm : Nm} {ls : List (Lx d)} {w w' : World} {P : PlV} (hb : Below w.heap.size w w') (hc : ∀ l ∈ ls, checkE nm d l = 0) (hp : PlanRd (fun b => w.heap.size ≤ b ∧ b < w'.heap.size) w' P (mkSt nm d ls)) : MakeP d nm ls w (.returned (.tuple #[P.val, .int .i64 (-1)])) w' := ⟨hb, .inr ⟨hc, P, rfl, hp⟩⟩
theorem TryzinfoLst : (Tryz.prog.info? 27).map (fun i => (i.zero, i.size, i.bytes)) = some (some (.slice none 0 0), 1, 24) := by kernel_rfl
set_option maxRecDepth 100000 in
set_option maxHeartbeats 4000000 in
theorem pmake_any {nm : Nm} {N : NmV} {d : Nat} (hd : d ≤ 1000) (hok : NmOk nm) (hRt : ∀ (l : Lx d) (a : Option Addr) (n c : Nat) (w' : World), NmAt (· < w'.heap.size) w' N nm → RdL (· < w'.heap.size) d w' a n c l → Calls Tryz.prog 42 #[.slice a n c, nmV nm N, .bool true] w' (Told (.bool (rightL nm d true l)) w'))
    {la : Option Addr} {n lc : Nat} {w : World} {ls : List (Lx d)} (hN : NmAt (· < w.heap.size) w N nm) (hx : ListsAt d (· < w.heap.size) w la n lc ls) (ht : (ls.map (cntL d)).sum ≤ 1000000) (hl : ls.length ≤ 1000) :
    Calls Tryz.prog 13 #[.slice la n lc, nmV nm N] w (MakeP d nm ls w) := by
  obtain ⟨iL, hiL, hzL⟩ := Option.map_eq_some_iff.1 TryzinfoLst
  simp only [Prod.mk.injEq] at hzL
  have HIL := Lib.hid (And.intro hiL hzL)
  clear hiL hzL
  have hb1 := (Below.refl w.heap.size w).alloc (Nat.le_refl _) (.cells #[.bool nm.hd, .string nm.df, .slice N.pa N.pn N.pc, .slice N.sa N.sn N.sc] 25)
  have hb2 := hb1.alloc hb1.size (.cells #[.slice none 0 0, .slice none 0 0, .slice none 0 0, .slice none 0 0, .int .i64 0] 37)
  have hb3 := hb2.alloc hb2.size (.cells #[.bool nm.hd, .string nm.df, .slice N.pa N.pn N.pc, .slice N.sa N.sn N.sc, .slice none 0 0, .slice none 0 0, .slice none 0 0, .slice none 0 0, .int .i64 0] 70)
  have d0 := (Blk.alloc (w := w) (T := 25) [.bool nm.hd, .string nm.df, .slice N.pa N.pn N.pc, .slice N.sa N.sn N.sc]).alloc_old (.cells #[.slice none 0 0, .slice none 0 0, .slice none 0 0, .slice none 0 0, .int .i64 0] 37)
  have y0 := d0.cell 0 _ rfl
  have y1 := d0.cell 1 _ rfl
  have y2 := d0.cell 2 _ rfl
  have y3 := d0.cell 3 _ rfl
  have d0' := d0.alloc_old (.cells #[.bool nm.hd, .string nm.df, .slice N.pa N.pn N.pc, .slice N.sa N.sn N.sc, .slice none 0 0, .slice none 0 0, .slice none 0 0, .slice none 0 0, .int .i64 0] 70)
  have d1 := (Blk.alloc (w := w.alloc (.cells #[.bool nm.hd, .string nm.df, .slice N.pa N.pn N.pc, .slice N.sa N.sn N.sc] 25)) (T := 37) [.slice none 0 0, .slice none 0 0, .slice none 0 0, .slice none 0 0, .int .i64 0]).alloc_old (.cells #[.bool nm.hd, .string nm.df, .slice N.pa N.pn N.pc, .slice N.sa N.sn N.sc, .slice none 0 0, .slice none 0 0, .slice none 0 0, .slice none 0 0, .int .i64 0] 70)
  have d2 := Blk.alloc (w := (w.alloc (.cells #[.bool nm.hd, .string nm.df, .slice N.pa N.pn N.pc, .slice N.sa N.sn N.sc] 25)).alloc (.cells #[.slice none 0 0, .slice none 0 0, .slice none 0 0, .slice none 0 0, .int .i64 0] 37)) (T := 70) [.bool nm.hd, .string nm.df, .slice N.pa N.pn N.pc, .slice N.sa N.sn N.sc, .slice none 0 0, .slice none 0 0, .slice none 0 0, .slice none 0 0, .int .i64 0]
  rw [show (w.alloc (.cells #[.bool nm.hd, .string nm.df, .slice N.pa N.pn N.pc, .slice N.sa N.sn N.sc] 25)).heap.size = w.heap.size + 1 from by simp] at d1
  rw [show ((w.alloc (.cells #[.bool nm.hd, .string nm.df, .slice N.pa N.pn N.pc, .slice N.sa N.sn N.sc] 25)).alloc (.cells #[.slice none 0 0, .slice none 0 0, .slice none 0 0, .slice none 0 0, .int .i64 0] 37)).heap.size = w.heap.size + 1 + 1 from by simp] at d2
  obtain ⟨w0, hw0⟩ : ∃ w0, ((w.alloc (.cells #[.bool nm.hd, .string nm.df, .slice N.pa N.pn N.pc, .slice N.sa N.sn N.sc] 25)).alloc (.cells #[.slice none 0 0, .slice none 0 0, .slice none 0 0, .slice none 0 0, .int .i64 0] 37)).alloc (.cells #[.bool nm.hd, .string nm.df, .slice N.pa N.pn N.pc, .slice N.sa N.sn N.sc, .slice none 0 0, .slice none 0 0, .slice none 0 0, .slice none 0 0, .int .i64 0] 70) = w0 := ⟨_, rfl⟩
  have hsz : w0.heap.size = w.heap.size + 3 := by rw [← hw0]; simp
  rw [hw0] at hb3 d0' d1 d2
  have hP0 : PenAt w0 (w.heap.size + 1 + 1) (w.heap.size + 1 + 1 + 1) N nm pen0 nilV [] :=
    ⟨d2, Nat.lt_succ_self _, by omega, hN.move (fun b hb => ⟨by omega, hb3.block b hb⟩), World.ownsRow_nil _ _ _ _, RowK.nil (World.ownsRow_nil _ _ _ _), RowK.nil (World.ownsRow_nil _ _ _ _), RowK.nil (World.ownsRow_nil _ _ _ _), List.Pairwise.nil, fun b hb => by cases hb⟩
  have HP0 := Lib.hid hP0
  have HB0 := Lib.hid hb3
  have D0 := Lib.hid d0'
  have D1 := Lib.hid d1
  have HSZ := Lib.hid hsz
  have HX := Lib.hid hx
  have HXN := Lib.hid hx.1
  have HNN := Lib.hid hN
  have HT := Lib.hid ht
  have HL := Lib.hid hl
  have hnm : n ≤ 1000 := by rw [hx.1]; exact hl
  have HRT := Lib.hid hRt
  unfold nmV
  clear hN hx ht hl hRt hb1 hb2 hb3 d0 d0' d1 d2 hP0 hsz
  go_enter Tryz.func13, Tryz.ntmps13
  go_wp2
  clear hw0 y0 y1 y2 y3
  go_loopw [7] (fun iv wr => ∃ (j : Nat) (V' : PV), j ≤ n ∧ iv = .int .i64 j ∧ Hid (∀ l ∈ ls.take j, checkE nm d l = 0) ∧ Hid (PenAt wr (w.heap.size + 1 + 1) (w.heap.size + 1 + 1 + 1) N nm (mkSt nm d (ls.take j)) V' []) ∧ Hid (PG w0 wr (w.heap.size + 1 + 1) nilV V')) (fun iv _ => n - (intOf iv).toNat)
  case atStart => exact ⟨0, nilV, Nat.zero_le _, rfl, Lib.hid (fun l hl => by simp at hl), HP0, Lib.hid (PG.of_below (Below.refl _ _))⟩
  case round =>
    obtain ⟨j, V1, hj, rfl, HC, HP, HG⟩ := hrel
    have HIN := Lib.hid (fun b (hb : b < w.heap.size + 1 + 1) => HG.out.block b (by have := HSZ.out; omega) (by omega) (by simp [nilV, PV.own, Value.ownBlock]))
    have HBL := Lib.hid (show Below w.heap.size w wr from ⟨HG.out.os.trans HB0.out.os, HG.out.tape.trans HB0.out.tape, HG.out.output.trans HB0.out.output, Nat.le_trans HB0.out.size HG.out.size, fun b hb => (HIN.out b (by omega)).trans (HB0.out.block b hb)⟩)
    have E0 := Lib.hid (show Blk wr w.heap.size _ _ from (HIN.out w.heap.size (by omega)).trans D0.out)
    have E1 := Lib.hid (show Blk wr (w.heap.size + 1) _ _ from (HIN.out (w.heap.size + 1) (by omega)).trans D1.out)
    by_cases hlt : j < n
    · obtain ⟨k, hk⟩ : ∃ k, ls[j]? = some k := ⟨_, List.getElem?_eq_getElem (by rw [← HXN.out]; exact hlt)⟩
      obtain ⟨b, off, rfl, hb, ka, kn, kc, hk1, hk2⟩ := HX.out.at j k hk
      rw [Nat.mul_one] at hk1
      have u0 : wr.cell? ⟨b, off + j, none⟩ = some (.slice ka kn kc) := (cell_sameS (HBL.out.block b hb) _).trans hk1
      have hjI : (0 : Int) ≤ (j : Int) := by omega
      have hjI2 : (j : Int) < (n : Int) := by omega
      have z0 := E0.out.cell 0 _ rfl
      have z1 := E0.out.cell 1 _ rfl
      have z2 := E0.out.cell 2 _ rfl
      have z3 := E0.out.cell 3 _ rfl
      have FC := Lib.hid (fun (wx : World) (hbx : Below wr.heap.size wr wx) => check8_any hd k (HRT.out k) (HNN.out.move (w' := wx) (ok' := (· < wx.heap.size)) (fun b hb => ⟨by have := HBL.out.size; have := hbx.size; omega, (hbx.block b (Nat.lt_of_lt_of_le hb HBL.out.size)).trans (HBL.out.block b hb)⟩)) hok (RdL.move (w' := wx) (ok' := (· < wx.heap.size)) (fun b hb => ⟨by have := HBL.out.size; have := hbx.size; omega, (hbx.block b (Nat.lt_of_lt_of_le hb HBL.out.size)).trans (HBL.out.block b hb)⟩) hk2))
      have HKM := Lib.hid (List.mem_of_getElem? hk)
      have HK := Lib.hid hk
      have HKT := Lib.hid (take_snoc hk)
      have HTJ := Lib.hid (mkSt_tot nm d (ls.take j))
      have HCK := Lib.hid (sum_take_succ (cntL d) hk)
      have HLP := Lib.hid (plist_any (w.heap.size + 1 + 1) (w.heap.size + 1 + 1 + 1) N nm d)
      have HK2 := Lib.hid hk2
      have HBB := Lib.hid (show b < w.heap.size from hb)
      clear hk hk1 hk2
      unfold nmV at FC
      have s0 : wr.drew.cell? ⟨w.heap.size, 0, none⟩ = _ := z0
      have s1 : wr.drew.cell? ⟨w.heap.size, 1, none⟩ = _ := z1
      have s2 : wr.drew.cell? ⟨w.heap.size, 2, none⟩ = _ := z2
      have s3 : wr.drew.cell? ⟨w.heap.size, 3, none⟩ = _ := z3
      have u0d : wr.drew.cell? ⟨b, off + j, none⟩ = _ := u0
      have FCD := Lib.hid (FC.out wr.drew (Below.refl _ _).drew)
      by_cases hc : checkE nm d k = 0
      · have q1 : (checkE nm d k != 0) = false := by simp [hc]
        have H1x := Lib.hid hc
        go_wp2_with fail
        go_region_with (go_at_call 25; (with_reducible refine FCD.out.mono ?_); rintro e w1 ⟨rfl, hb1⟩; have H1 := Lib.hid ((Below.refl _ _).drew.trans hb1 : Below wr.heap.size wr w1))
        all_goals
          have P1 := Lib.hid (HP.out.later H1.out)
          have u1 : w1.cell? ⟨b, off + j, none⟩ = some (.slice ka kn kc) := (H1.out.cell (p := ⟨b, off + j, none⟩) (Nat.lt_of_lt_of_le HBB.out HBL.out.size)).trans u0
          have fL := HLP.out k w1 _ V1 [] ka kn kc P1.out (RdL.move (fun b hb => ⟨by omega, (H1.out.block b (Nat.lt_of_lt_of_le hb HBL.out.size)).trans (HBL.out.block b hb)⟩) HK2.out) (by have h1 := HTJ.out.1; have h2 := HCK.out; have h3 := HT.out; omega)
          have HLL := Lib.hid (show (penL nm d k (mkSt nm d (ls.take j))).2.lists.length = j from by rw [penL_lists, HTJ.out.2, List.length_take, ← HXN.out]; omega)
          have HSTP := Lib.hid (show mkSt nm d (ls.take (j + 1)) = { (penL nm d k (mkSt nm d (ls.take j))).2 with lists := (penL nm d k (mkSt nm d (ls.take j))).2.lists ++ [(penL nm d k (mkSt nm d (ls.take j))).1] } from by rw [HKT.out, mkSt_snoc]; rfl)
          have HCN := Lib.hid (show ∀ l ∈ ls.take (j + 1), checkE nm d l = 0 from fun l hl => by
            rw [HKT.out] at hl
            rcases List.mem_append.1 hl with hl | hl
            · exact HC.out l hl
            · obtain rfl := List.mem_singleton.1 hl
              exact H1x.out)
          have HG1 := Lib.hid (HG.out.trans (PG.of_below (V := V1) H1.out))
          generalize penL nm d k (mkSt nm d (ls.take j)) = rr at *
          obtain ⟨rs, st5⟩ := rr
          dsimp only at HLL HSTP
          have fL := fL.mono (R' := fun e w' => ∃ (V' : PV) (a : Option Addr) (c : Nat), e = .returned (.slice a rs.length c) ∧ IntsAt (okE (w.heap.size + 1 + 1 + 1) w' (V'.own ++ [])) w' a rs.length c rs ∧ rs.length ≤ 1000000 ∧ PenAt w' (w.heap.size + 1 + 1) (w.heap.size + 1 + 1 + 1) N nm st5 V' [] ∧ PG w1 w' (w.heap.size + 1 + 1) V1 V') (fun e w' h => h)
          clear s0 s1 s2 s3 u0d z0 z1 z2 z3
          go_wp2_with (first
            | (go_at_call 26; (with_reducible refine fL.mono ?_); rintro e w2 ⟨V2, a2, c2, rfl, hI2, hlen2, hP2, hG2⟩; have hbu := (Below.refl w2.heap.size w2).alloc (Nat.le_refl _) (.cells #[.slice a2 rs.length c2] 27); have pl2 := hP2.blk.cell 7 _ rfl; have P3 := Lib.hid (hP2.later hbu); have I3 := Lib.hid (show RLi (okE (w.heap.size + 1 + 1 + 1) (w2.alloc (.cells #[.slice a2 rs.length c2] 27)) (V2.own ++ [])) (w2.alloc (.cells #[.slice a2 rs.length c2] 27)) a2 rs.length c2 rs from IntsAt.move hI2 (fun b hb => ⟨⟨hb.1, Nat.lt_of_lt_of_le hb.2.1 hbu.size, hb.2.2⟩, hbu.block b hb.2.1⟩)); have U3 := Lib.hid (show Blk (w2.alloc (.cells #[.slice a2 rs.length c2] 27)) w2.heap.size [.slice a2 rs.length c2] 27 from Blk.alloc [.slice a2 rs.length c2] _); have G3 := Lib.hid ((HG1.out.trans hG2).trans (PG.of_below hbu)); have pl3 := P3.out.blk.cell 7 _ rfl; have HSB := Lib.hid hP2.bw; clear hI2 hlen2 hP2 hG2 hbu)
            | (at_builtin; obtain ⟨ys, hy1, hy2, hy3⟩ := P3.out.lists; rw [HLL.out] at hy2; refine wpList_append_row2 rfl _ _ 35 rfl (w.heap.size + 1 + 1 + 1) 27 iL _ 1 24 Tryz.underlying35 HIL.out.1 HIL.out.2.1 rfl (by decide) HIL.out.2.2.1 HIL.out.2.2.2 V2.vl j _ rfl hy2 ⟨w2.heap.size, 0, none⟩ 1 (liCells rs a2 rs.length c2) rfl rfl (by intro u hu; simp only [liCells, List.mem_cons, List.not_mem_nil, or_false] at hu; subst hu; rfl) (fun jj u hu => by rw [show (⟨w2.heap.size, 0, none⟩ : Addr).add jj = ⟨w2.heap.size, jj, none⟩ from by simp [Addr.add]; intro hj; exact hj.symm]; exact U3.out.cell jj u hu) (by unfold maxLen; omega) (by omega) (by have := HSB.out; simp; omega) ?_; intro v8 w8 hown8 hgr8 hv8; obtain ⟨a8, c8, rfl⟩ := own_shape hown8; have h8 := PenAt.list P3.out hy1 hy3 I3.out (by rw [HLL.out]; exact hown8) hgr8 hv8; have P8 := Lib.hid h8.1; have G8 := Lib.hid (G3.out.trans h8.2); have hB8 := P3.out.blk.kept hgr8 (fun e => by have := (PV.own_lt P3.out (b := w.heap.size + 1 + 1) (by rw [← e]; simp [PV.own])).1; omega); have d7 := hB8.cell 7 _ rfl; have g7 := hB8.frozen 7; clear hy1 hy2 hy3 hown8 hgr8 hv8 h8 hB8))
          clear d7 g7 pl2 pl3
          go_roundw
          case rel => exact ⟨j + 1, { V2 with vl := .slice a8 (j + 1) c8 }, by omega, by go_num, HCN, Lib.hid (by rw [HSTP.out]; exact P8.out), G8⟩
          case measure => simp [intOf]; omega
      · have q1 : (checkE nm d k != 0) = true := by simpa using hc
        go_wp2_with fail
        go_region_with (go_at_call 25; (with_reducible refine FCD.out.mono ?_); rintro e w1 ⟨rfl, hb1⟩; have H1 := Lib.hid ((Below.refl _ _).drew.trans hb1 : Below wr.heap.size wr w1))
        all_goals
          have e0 := (E1.out.later H1.out E1.out.lt).cell 0 _ rfl
          have e1 := (E1.out.later H1.out E1.out.lt).cell 1 _ rfl
          have e2 := (E1.out.later H1.out E1.out.lt).cell 2 _ rfl
          have e3 := (E1.out.later H1.out E1.out.lt).cell 3 _ rfl
          have e4 := (E1.out.later H1.out E1.out.lt).cell 4 _ rfl
          have f0 := (E1.out.later H1.out E1.out.lt).frozen 0
          have f1 := (E1.out.later H1.out E1.out.lt).frozen 1
          have f2 := (E1.out.later H1.out E1.out.lt).frozen 2
          have f3 := (E1.out.later H1.out E1.out.lt).frozen 3
          have f4 := (E1.out.later H1.out E1.out.lt).frozen 4
          have HB9 := Lib.hid (show Below w.heap.size w w1 from HBL.out.trans (H1.out.mono HBL.out.size))
          have E9 := Lib.hid (E1.out.later H1.out E1.out.lt)
          go_wp2
          clear e0 e1 e2 e3 e4 f0 f1 f2 f3 f4
          have b0 := E9.out.setCell 0 (.slice none 0 0)
          have b1 := b0.setCell 1 (.slice none 0 0)
          have b2 := b1.setCell 2 (.slice none 0 0)
          have b3 := b2.setCell 3 (.slice none 0 0)
          have b4 := b3.setCell 4 (.int .i64 0)
          have r0 := b0.cell 0 _ rfl
          have r1 := b1.cell 1 _ rfl
          have r2 := b2.cell 2 _ rfl
          have r3 := b3.cell 3 _ rfl
          have r4 := b4.cell 4 _ rfl
          have hp : w.heap.size ≤ w.heap.size + 1 := by omega
          have HBF := Lib.hid (((((HB9.out.setCell (p := ⟨w.heap.size + 1, 0, none⟩) hp (.slice none 0 0)).setCell (p := ⟨w.heap.size + 1, 1, none⟩) hp (.slice none 0 0)).setCell (p := ⟨w.heap.size + 1, 2, none⟩) hp (.slice none 0 0)).setCell (p := ⟨w.heap.size + 1, 3, none⟩) hp (.slice none 0 0)).setCell (p := ⟨w.heap.size + 1, 4, none⟩) hp (.int .i64 0))
          clear b0 b1 b2 b3 b4
          (with_reducible refine bodyPost_ret (v := .tuple #[zeroPl.val, .int .i64 (j : Nat)]) ?_ rfl (make_bad HBF.out HK.out hc))
          simp [results, Tryz.results13, go_sem, zeroPl, PlV.val, r0, r1, r2, r3, r4]
    · obtain rfl : j = n := by omega
      have hjI2 : ¬ (j : Int) < (j : Int) := by omega
      have HTK : ls.take j = ls := List.take_of_length_le (by rw [← HXN.out]; exact Nat.le_refl _)
      rw [HTK] at HC HP
      obtain ⟨P, g1, g2, g3, g4, hPl⟩ := PenAt.plan HP.out (by have h1 := (mkSt_tot nm d ls).1; have h2 := HT.out; omega) (by rw [(mkSt_tot nm d ls).2]; exact HL.out)
      have HPl := Lib.hid hPl
      have p4 : wr.cell? ⟨w.heap.size + 1 + 1, 4, none⟩ = some (.slice P.aa P.an P.ac) := by rw [← g1]; exact HP.out.blk.cell 4 _ rfl
      have p5 : wr.cell? ⟨w.heap.size + 1 + 1, 5, none⟩ = some (.slice P.ra P.rn P.rc) := by rw [← g2]; exact HP.out.blk.cell 5 _ rfl
      have p6 : wr.cell? ⟨w.heap.size + 1 + 1, 6, none⟩ = some (.slice P.ca P.cn P.cc) := by rw [← g3]; exact HP.out.blk.cell 6 _ rfl
      have p7 : wr.cell? ⟨w.heap.size + 1 + 1, 7, none⟩ = some (.slice P.la P.ln P.lc) := by rw [← g4]; exact HP.out.blk.cell 7 _ rfl
      have p8 : wr.cell? ⟨w.heap.size + 1 + 1, 8, none⟩ = some (.int .i64 P.st) := by rw [hPl.steps]; exact HP.out.blk.cell 8 _ rfl
      have e0 := E1.out.cell 0 _ rfl
      have e1 := E1.out.cell 1 _ rfl
      have e2 := E1.out.cell 2 _ rfl
      have e3 := E1.out.cell 3 _ rfl
      have e4 := E1.out.cell 4 _ rfl
      have f0 := E1.out.frozen 0
      have f1 := E1.out.frozen 1
      have f2 := E1.out.frozen 2
      have f3 := E1.out.frozen 3
      have f4 := E1.out.frozen 4
      clear hPl g1 g2 g3 g4 HTK
      obtain ⟨aa, an, ac, ra, rn, rc, ca, cn, cc, la, ln, lc, st⟩ := P
      dsimp only at p4 p5 p6 p7 p8
      go_wp2
      clear e0 e1 e2 e3 e4 f0 f1 f2 f3 f4 p4 p5 p6 p7 p8
      have b0 := E1.out.setCell 0 (.slice aa an ac)
      have b1 := b0.setCell 1 (.slice ra rn rc)
      have b2 := b1.setCell 2 (.slice ca cn cc)
      have b3 := b2.setCell 3 (.slice la ln lc)
      have b4 := b3.setCell 4 (.int .i64 st)
      have r0 := b0.cell 0 _ rfl
      have r1 := b1.cell 1 _ rfl
      have r2 := b2.cell 2 _ rfl
      have r3 := b3.cell 3 _ rfl
      have r4 := b4.cell 4 _ rfl
      have hp : w.heap.size ≤ w.heap.size + 1 := by omega
      have hBF := ((((HBL.out.setCell (p := ⟨w.heap.size + 1, 0, none⟩) hp (.slice aa an ac)).setCell (p := ⟨w.heap.size + 1, 1, none⟩) hp (.slice ra rn rc)).setCell (p := ⟨w.heap.size + 1, 2, none⟩) hp (.slice ca cn cc)).setCell (p := ⟨w.heap.size + 1, 3, none⟩) hp (.slice la ln lc)).setCell (p := ⟨w.heap.size + 1, 4, none⟩) hp (.int .i64 st)
      have HBF := Lib.hid hBF
      have hg5 := grown_write (grown_write (grown_write (grown_write (grown_write (World.grownBy.refl wr (some (w.heap.size + 1))) 0 (.slice aa an ac)) 1 (.slice ra rn rc)) 2 (.slice ca cn cc)) 3 (.slice la ln lc)) 4 (.int .i64 st)
      have HPF := Lib.hid (HPl.out.move (ok' := fun b => w.heap.size ≤ b ∧ b < ((((((wr.setCell ⟨w.heap.size + 1, 0, none⟩ (.slice aa an ac)).setCell ⟨w.heap.size + 1, 1, none⟩ (.slice ra rn rc)).setCell ⟨w.heap.size + 1, 2, none⟩ (.slice ca cn cc)).setCell ⟨w.heap.size + 1, 3, none⟩ (.slice la ln lc)).setCell ⟨w.heap.size + 1, 4, none⟩ (.int .i64 st)).heap.size)) (fun b hb => ⟨⟨by omega, Nat.lt_of_lt_of_le hb.2 hg5.size⟩, hg5.block b hb.2 (fun e => by have := Option.some.inj e; omega)⟩))
      clear b0 b1 b2 b3 b4 hBF hg5
      (with_reducible refine bodyPost_ret (v := .tuple #[(PlV.mk aa an ac ra rn rc ca cn cc la ln lc st).val, .int .i64 (-1)]) ?_ rfl (make_good HBF.out HC.out HPF.out))
      simp [results, Tryz.results13, go_sem, PlV.val, r0, r1, r2, r3, r4]
end
end Go.Proofs.YtcfhggdiccilaaaGreat
