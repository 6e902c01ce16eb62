/- Texts of mine in one: Fpt Fpm St0 St1 St4 St3. -/
import Derived.Test.YtcfhggdiccilaaaGreatQ32
namespace Go.Proofs.YtcfhggdiccilaaaGreat
section
open Go.RowKit
set_option linter.unusedVariables false
set_option linter.unusedSimpArgs false
theorem penAtom_tot (st : PenS) (a : AtF) : (penAtom st a).2.tot ≤ st.tot + 1 := by
  unfold penAtom
  split
  · exact Nat.le_succ _
  · unfold PenS.tot; simp; omega
theorem penElem_tot (nm : Nm) (st : PenS) (name : ByteArray) (ns : Int) (pre : ByteArray) : (penElem nm st name ns pre).2.tot ≤ st.tot + 1 := by
  unfold penElem
  dsimp only
  split
  · exact Nat.le_succ _
  · exact penAtom_tot _ _
theorem penPlain_tot (st : PenS) (name : ByteArray) (op : Int) (text : ByteArray) : (penPlain st name op text).2.tot ≤ st.tot + 1 := penAtom_tot _ _
theorem ctrs_tot (st : PenS) (x : CtF) : ({ st with ctrs := st.ctrs ++ [x] } : PenS).tot = st.tot + 1 := by unfold PenS.tot; simp; omega
section
variable {L : Type} {f : L → PenS → List Int × PenS} {g : L → Nat} {nm : Nm}
theorem penTerm_tot (hf : ∀ l st, (f l st).2.tot ≤ st.tot + g l) (st : PenS) (s : Flat × L) : (penTerm f nm st s).2.tot ≤ st.tot + cntS g s := by
  obtain ⟨⟨kind, ns, pre, name, op, text, fold, mark, fa, fb⟩, l⟩ := s
  have hl := hf l st
  show _ ≤ st.tot + (4 + g l)
  by_cases h1 : kind = 1
  · subst h1
    rw [show penTerm f nm st (⟨1, ns, pre, name, op, text, fold, mark, fa, fb⟩, l) = penElem nm st name ns pre from rfl]
    have := penElem_tot nm st name ns pre; omega
  by_cases h2 : kind = 2
  · subst h2
    rw [show penTerm f nm st (⟨2, ns, pre, name, op, text, fold, mark, fa, fb⟩, l) = penElem nm st name ns pre from rfl]
    have := penElem_tot nm st name ns pre; omega
  by_cases h3 : kind = 3
  · subst h3
    rw [show penTerm f nm st (⟨3, ns, pre, name, op, text, fold, mark, fa, fb⟩, l) = penPlain st ⟨#[99, 108, 97, 115, 115]⟩ 3 name from rfl]
    have := penPlain_tot st ⟨#[99, 108, 97, 115, 115]⟩ 3 name; omega
  by_cases h4 : kind = 4
  · subst h4
    rw [show penTerm f nm st (⟨4, ns, pre, name, op, text, fold, mark, fa, fb⟩, l) = penPlain st ⟨#[105, 100]⟩ 2 name from rfl]
    have := penPlain_tot st ⟨#[105, 100]⟩ 2 name; omega
  by_cases h5 : kind = 5
  · subst h5
    rw [show penTerm f nm st (⟨5, ns, pre, name, op, text, fold, mark, fa, fb⟩, l) = penAtom st ⟨2, (spaceF nm ns pre true).1, (spaceF nm ns pre true).2, name, op, text, fold⟩ from rfl]
    have := penAtom_tot st ⟨2, (spaceF nm ns pre true).1, (spaceF nm ns pre true).2, name, op, text, fold⟩; omega
  by_cases h11 : kind = 11
  · subst h11
    rw [show penTerm f nm st (⟨11, ns, pre, name, op, text, fold, mark, fa, fb⟩, l) = penAtom st ⟨3, false, ⟨#[]⟩, name, 0, ⟨#[]⟩, false⟩ from rfl]
    have := penAtom_tot st ⟨3, false, ⟨#[]⟩, name, 0, ⟨#[]⟩, false⟩; omega
  by_cases h6 : kind = 6
  · subst h6
    rw [show penTerm f nm st (⟨6, ns, pre, name, op, text, fold, mark, fa, fb⟩, l) = (.mk 6 0 [], st) from rfl]
    show st.tot ≤ _; omega
  by_cases h8 : kind = 8
  · subst h8
    rw [show penTerm f nm st (⟨8, ns, pre, name, op, text, fold, mark, fa, fb⟩, l) = (tmRows (f l st).1, (f l st).2) from rfl]
    show (f l st).2.tot ≤ _; omega
  by_cases h9 : kind = 9
  · subst h9
    rw [show penTerm f nm st (⟨9, ns, pre, name, op, text, fold, mark, fa, fb⟩, l) = (tmRows (f l st).1, (f l st).2) from rfl]
    show (f l st).2.tot ≤ _; omega
  by_cases h10 : kind = 10
  · subst h10
    rw [show penTerm f nm st (⟨10, ns, pre, name, op, text, fold, mark, fa, fb⟩, l) = (tmNot (tmRows (f l st).1), (f l st).2) from rfl]
    show (f l st).2.tot ≤ _; omega
  by_cases h7 : kind = 7
  · subst h7
    rw [show penTerm f nm st (⟨7, ns, pre, name, op, text, fold, mark, fa, fb⟩, l) = (.mk 5 (f l st).2.ctrs.length [], { (f l st).2 with ctrs := (f l st).2.ctrs ++ [⟨fa, fb, (f l st).1⟩] }) from rfl]
    have := ctrs_tot (f l st).2 ⟨fa, fb, (f l st).1⟩; exact Nat.le_trans (Nat.le_of_eq this) (by omega)
  by_cases h12 : kind = 12
  · subst h12
    rw [show penTerm f nm st (⟨12, ns, pre, name, op, text, fold, mark, fa, fb⟩, l) = (tmNot (.mk 4 0 [tmNot (.mk 4 0 [(penElem nm st ⟨#[97]⟩ 0 ⟨#[]⟩).1, (penElem nm (penElem nm st ⟨#[97]⟩ 0 ⟨#[]⟩).2 ⟨#[97, 114, 101, 97]⟩ 0 ⟨#[]⟩).1]), tmNot (penPlain (penElem nm (penElem nm st ⟨#[97]⟩ 0 ⟨#[]⟩).2 ⟨#[97, 114, 101, 97]⟩ 0 ⟨#[]⟩).2 ⟨#[104, 114, 101, 102]⟩ 1 ⟨#[]⟩).1]), (penPlain (penElem nm (penElem nm st ⟨#[97]⟩ 0 ⟨#[]⟩).2 ⟨#[97, 114, 101, 97]⟩ 0 ⟨#[]⟩).2 ⟨#[104, 114, 101, 102]⟩ 1 ⟨#[]⟩).2) from rfl]
    have h1 := penElem_tot nm st ⟨#[97]⟩ 0 ⟨#[]⟩
    have h2 := penElem_tot nm (penElem nm st ⟨#[97]⟩ 0 ⟨#[]⟩).2 ⟨#[97, 114, 101, 97]⟩ 0 ⟨#[]⟩
    have h3 := penPlain_tot (penElem nm (penElem nm st ⟨#[97]⟩ 0 ⟨#[]⟩).2 ⟨#[97, 114, 101, 97]⟩ 0 ⟨#[]⟩).2 ⟨#[104, 114, 101, 102]⟩ 1 ⟨#[]⟩
    exact Nat.le_trans h3 (by omega)
  have he : penTerm f nm st (⟨kind, ns, pre, name, op, text, fold, mark, fa, fb⟩, l) = (.mk 7 0 [], st) := by
    unfold penTerm
    simp only [h1, h2, h3, h4, h5, h11, h6, h8, h9, h10, h7, h12, if_false, or_self]
  rw [he]
  show st.tot ≤ _
  omega
theorem penTerms_tot (hf : ∀ l st, (f l st).2.tot ≤ st.tot + g l) : ∀ (ys : List (Flat × L)) (st : PenS), (penTerms f nm st ys).2.tot ≤ st.tot + (ys.map (cntS g)).sum
  | [], st => Nat.le_refl _
  | s :: r, st => by
    have h1 := penTerm_tot (nm := nm) hf st s
    have h2 := penTerms_tot hf r (penTerm f nm st s).2
    rw [List.map_cons, List.sum_cons]
    show (penTerms f nm (penTerm f nm st s).2 r).2.tot ≤ _
    omega
theorem penTerms_len : ∀ (ys : List (Flat × L)) (st : PenS), (penTerms f nm st ys).1.length = ys.length
  | [], st => rfl
  | s :: r, st => by show (_ :: (penTerms f nm (penTerm f nm st s).2 r).1).length = _; rw [List.length_cons, penTerms_len r, List.length_cons]
theorem penSteps_tot (hf : ∀ l st, (f l st).2.tot ≤ st.tot + g l) : ∀ (x : List (Int × List (Flat × L))) (st : PenS), (penSteps f nm st x).2.tot + x.length ≤ st.tot + (x.map (cntK g)).sum
  | [], st => Nat.le_refl _
  | k :: r, st => by
    have h1 := penTerms_tot (nm := nm) hf k.2 st
    have h2 := penSteps_tot hf r (penTerms f nm st k.2).2
    rw [List.map_cons, List.sum_cons, List.length_cons]
    show (penSteps f nm (penTerms f nm st k.2).2 r).2.tot + (r.length + 1) ≤ st.tot + ((1 + (k.2.map (cntS g)).sum) + (r.map (cntK g)).sum)
    omega
theorem penSteps_len : ∀ (x : List (Int × List (Flat × L))) (st : PenS), (penSteps f nm st x).1.length = x.length
  | [], st => rfl
  | k :: r, st => by show (_ :: (penSteps f nm (penTerms f nm st k.2).2 r).1).length = _; rw [List.length_cons, penSteps_len r, List.length_cons]
theorem penRow_tot (hf : ∀ l st, (f l st).2.tot ≤ st.tot + g l) (st : PenS) (x : List (Int × List (Flat × L))) : (penRow f nm st x).2.tot ≤ st.tot + cntX g x := by
  have h := penSteps_tot (nm := nm) hf x st
  unfold cntX
  unfold penRow
  dsimp only
  unfold PenS.tot at *
  simp only [List.length_append, List.length_cons, List.length_nil]
  omega
theorem penRows_tot (hf : ∀ l st, (f l st).2.tot ≤ st.tot + g l) : ∀ (x : List (List (Int × List (Flat × L)))) (st : PenS), (penRows f nm st x).2.tot ≤ st.tot + (x.map (cntX g)).sum
  | [], st => Nat.le_refl _
  | k :: r, st => by
    have h1 := penRow_tot (nm := nm) hf st k
    have h2 := penRows_tot hf r (penRow f nm st k).2
    rw [List.map_cons, List.sum_cons]
    show (penRows f nm (penRow f nm st k).2 r).2.tot ≤ _
    omega
theorem penRows_len : ∀ (x : List (List (Int × List (Flat × L)))) (st : PenS), (penRows f nm st x).1.length = x.length
  | [], st => rfl
  | k :: r, st => by show (_ :: (penRows f nm (penRow f nm st k).2 r).1).length = _; rw [List.length_cons, penRows_len r, List.length_cons]
theorem len_cnt (x : List (List (Int × List (Flat × L)))) : x.length ≤ (x.map (cntX g)).sum := by
  induction x with
  | nil => exact Nat.le_refl _
  | cons k r ih => rw [List.map_cons, List.sum_cons, List.length_cons]; unfold cntX at *; omega
end
theorem penL_tot (nm : Nm) : ∀ (d : Nat) (x : Lx d) (st : PenS), (penL nm d x st).2.tot ≤ st.tot + cntL d x
  | 0, _, st => Nat.le_refl _
  | d + 1, x, st => penRows_tot (f := penL nm d) (g := cntL d) (fun l st => penL_tot nm d l st) x st
end

section
open Go.RowKit
set_option linter.unusedVariables false
set_option linter.unusedSimpArgs false
section
variable {L : Type} {f : L → PenS → List Int × PenS} {g : L → Nat} {nm : Nm}
theorem penTerms_snoc : ∀ (l : List (Flat × L)) (st : PenS) (s : Flat × L), penTerms f nm st (l ++ [s]) = ((penTerms f nm st l).1 ++ [(penTerm f nm (penTerms f nm st l).2 s).1], (penTerm f nm (penTerms f nm st l).2 s).2)
  | [], st, s => rfl
  | x :: l, st, s => by
    show (_ :: (penTerms f nm (penTerm f nm st x).2 (l ++ [s])).1, (penTerms f nm (penTerm f nm st x).2 (l ++ [s])).2) = _
    rw [penTerms_snoc l]
    rfl
theorem penSteps_snoc : ∀ (l : List (Int × List (Flat × L))) (st : PenS) (k : Int × List (Flat × L)), penSteps f nm st (l ++ [k]) = ((penSteps f nm st l).1 ++ [(k.1, (penTerms f nm (penSteps f nm st l).2 k.2).1)], (penTerms f nm (penSteps f nm st l).2 k.2).2)
  | [], st, k => rfl
  | x :: l, st, k => by
    show (_ :: (penSteps f nm (penTerms f nm st x.2).2 (l ++ [k])).1, (penSteps f nm (penTerms f nm st x.2).2 (l ++ [k])).2) = _
    rw [penSteps_snoc l]
    rfl
theorem penRows_snoc : ∀ (l : List (List (Int × List (Flat × L)))) (st : PenS) (k : List (Int × List (Flat × L))), penRows f nm st (l ++ [k]) = ((penRows f nm st l).1 ++ [(penRow f nm (penRows f nm st l).2 k).1], (penRow f nm (penRows f nm st l).2 k).2)
  | [], st, k => rfl
  | x :: l, st, k => by
    show (_ :: (penRows f nm (penRow f nm st x).2 (l ++ [k])).1, (penRows f nm (penRow f nm st x).2 (l ++ [k])).2) = _
    rw [penRows_snoc l]
    rfl
end
theorem take_snoc {α : Type} {l : List α} {k : Nat} {x : α} (h : l[k]? = some x) : l.take (k + 1) = l.take k ++ [x] := by rw [List.take_add_one, h]; rfl
theorem sum_take {α : Type} (h : α → Nat) : ∀ (l : List α) (k : Nat), ((l.take k).map h).sum ≤ (l.map h).sum
  | [], k => by simp
  | x :: l, 0 => by simp
  | x :: l, k + 1 => by
    have := sum_take h l k
    simp only [List.take_succ_cons, List.map_cons, List.sum_cons]
    omega
theorem sum_take_succ {α : Type} (h : α → Nat) {l : List α} {k : Nat} {x : α} (hx : l[k]? = some x) : ((l.take k).map h).sum + h x ≤ (l.map h).sum := by
  have := sum_take h l (k + 1)
  rw [take_snoc hx, List.map_append, List.sum_append] at this
  simpa using this
theorem PenAt.writeIn {w w' : World} {p base g : Nat} {N : NmV} {nm : Nm} {st : PenS} {V : PV} {X : List (Option Nat)} (h : PenAt w p base N nm st V X) (hX : some g ∈ X) (hg : w.grownBy w' (some g)) : PenAt w' p base N nm st V X := by
  have hgb := h.xs g hX
  have hpb := h.pb
  have ho : ∀ b, okE base w (V.own ++ X) b → okE base w' (V.own ++ X) b ∧ w'.heap[b]? = w.heap[b]? := by
    rintro b ⟨h1, h2, h3⟩
    exact ⟨⟨h1, Nat.lt_of_lt_of_le h2 hg.size, h3⟩, hg.block b h2 (fun e => h3 (by rw [e]; exact List.mem_append_right _ hX))⟩
  have hv : ∀ b, some b ∈ V.own → w'.heap[b]? = w.heap[b]? := fun b hm => hg.block b (PV.own_lt h hm).2 (fun e => dist_mem h.dist hm (by rw [e]; exact hX))
  exact ⟨h.blk.kept hg (fun hh => by have := Option.some.inj hh; omega), h.pb, Nat.le_trans h.bw hg.size, h.names.move (fun b hb => ⟨hb, hg.block b (Nat.lt_trans hb h.blk.lt) (fun e => by have := Option.some.inj e; omega)⟩), owns_stay (fun g hg => hv g (by simp [PV.own, hg])) h.atoms,
    h.rows.stay RRo_moves (fun g hg => hv g (by simp [PV.own, hg])) ho, h.ctrs.stay RCt_moves (fun g hg => hv g (by simp [PV.own, hg])) ho, h.lists.stay RLi_moves (fun g hg => hv g (by simp [PV.own, hg])) ho, h.dist, fun b hb => ⟨(h.xs b hb).1, Nat.lt_of_lt_of_le (h.xs b hb).2 hg.size⟩⟩
theorem xs_ne {w : World} {p base a b i j : Nat} {N : NmV} {nm : Nm} {st : PenS} {V : PV} {X : List (Option Nat)} (h : PenAt w p base N nm st V X) (h1 : X[i]? = some (some a)) (h2 : X[j]? = some (some b)) (hij : i ≠ j) : a ≠ b :=
  dist_ne h.dist (i := 4 + i) (j := 4 + j) (by rw [List.getElem?_append_right (by simp [PV.own])]; simpa [PV.own] using h1) (by rw [List.getElem?_append_right (by simp [PV.own])]; simpa [PV.own] using h2) (by omega)
def RTm (ok : Nat → Prop) (w : World) (a : Option Addr) (n c : Nat) (t : Tm) : Prop := TmsAt 5 ok w a n c t.subs
theorem RTm_moves : Moves RTm := fun ok ok' w w' a n c t ho h => TmsAt_moves 5 ok ok' w w' a n c t.subs ho h
theorem RowK.pg2 {α : Type} {T : TypeId} {sz : Nat} {cel : α → Option Addr → Nat → Nat → List Value} {R : (Nat → Prop) → World → Option Addr → Nat → Nat → α → Prop} (hM : Moves R) {w w' : World} {p base lb : Nat} {N : NmV} {nm : Nm} {st : PenS} {V V' : PV} {X : List (Option Nat)} {v : Value} {out : List α}
    (hP : PenAt w p base N nm st V X) (hg : PG w w' p V V') (hv : v.ownBlock ∈ X) (h : RowK T sz cel R (okE base w (V.own ++ X)) w lb v out) : RowK T sz cel R (okE base w' (V'.own ++ X)) w' lb v out := by
  refine h.stay hM (fun g hgv => ?_) (fun b hb => okE_pg hg hP.pb hb)
  rw [hgv] at hv
  have hl := hP.xs g hv
  exact hg.block g hl.2 (by have := hP.pb; omega) (fun hm => dist_mem hP.dist hm hv)
theorem RowK.later {α : Type} {T : TypeId} {sz : Nat} {cel : α → Option Addr → Nat → Nat → List Value} {R : (Nat → Prop) → World → Option Addr → Nat → Nat → α → Prop} (hM : Moves R) {w w' : World} {base lb : Nat} {G : List (Option Nat)} {v : Value} {out : List α}
    (hb : Below w.heap.size w w') (h : RowK T sz cel R (okE base w G) w lb v out) : RowK T sz cel R (okE base w' G) w' lb v out :=
  h.stay hM (fun g hgv => hb.block g (h.own hgv).2) (fun b h' => ⟨⟨h'.1, Nat.lt_of_lt_of_le h'.2.1 hb.size, h'.2.2⟩, hb.block b h'.2.1⟩)
theorem RowK.grows {α : Type} {T : TypeId} {sz : Nat} {cel : α → Option Addr → Nat → Nat → List Value} {R : (Nat → Prop) → World → Option Addr → Nat → Nat → α → Prop} (hM : Moves R) {w w' : World} {base lb g : Nat} {V : PV} {X : List (Option Nat)} {v : Value} {out : List α}
    (hb : Below w.heap.size w w') (hg : w.heap.size ≤ g) (h : RowK T sz cel R (okE base w (V.own ++ X)) w lb v out) : RowK T sz cel R (okE base w' (V.own ++ some g :: X)) w' lb v out :=
  h.stay hM (fun g hgv => hb.block g (h.own hgv).2) (fun b h' => ⟨⟨h'.1, Nat.lt_of_lt_of_le h'.2.1 hb.size, fun hm => by
    rcases List.mem_append.1 hm with hm | hm
    · exact h'.2.2 (List.mem_append_left _ hm)
    · rcases List.mem_cons.1 hm with e | hm
      · have := Option.some.inj e; have := h'.2.1; omega
      · exact h'.2.2 (List.mem_append_right _ hm)⟩, hb.block b h'.2.1⟩)
theorem RowK.push {α : Type} {T : TypeId} {sz : Nat} {cel : α → Option Addr → Nat → Nat → List Value} {R : (Nat → Prop) → World → Option Addr → Nat → Nat → α → Prop} (hM : Moves R) {w : World} {base lb : Nat} {V : PV} {X : List (Option Nat)} {v : Value} {out : List α}
    (h : RowK T sz cel R (okE base w (V.own ++ X)) w lb v out) : RowK T sz cel R (okE base w (V.own ++ none :: X)) w lb v out :=
  h.stay hM (fun _ _ => rfl) (fun b h' => ⟨⟨h'.1, h'.2.1, fun hm => by
    rcases List.mem_append.1 hm with hm | hm
    · exact h'.2.2 (List.mem_append_left _ hm)
    · exact h'.2.2 (List.mem_append_right _ (by simpa using hm))⟩, rfl⟩)
theorem RowK.drop {α : Type} {T : TypeId} {sz : Nat} {cel : α → Option Addr → Nat → Nat → List Value} {R : (Nat → Prop) → World → Option Addr → Nat → Nat → α → Prop} (hM : Moves R) {w : World} {base lb : Nat} {V : PV} {X : List (Option Nat)} {r : Option Nat} {v : Value} {out : List α}
    (h : RowK T sz cel R (okE base w (V.own ++ r :: X)) w lb v out) : RowK T sz cel R (okE base w (V.own ++ X)) w lb v out :=
  h.stay hM (fun _ _ => rfl) (fun b h' => ⟨⟨h'.1, h'.2.1, fun hm => h'.2.2 (by
    rcases List.mem_append.1 hm with hm | hm
    · exact List.mem_append_left _ hm
    · exact List.mem_append_right _ (List.mem_cons_of_mem _ hm))⟩, rfl⟩)
theorem okE_head {base : Nat} {w w' : World} {V : PV} {X : List (Option Nat)} {r r' : Option Nat} (hg : w.grownBy w' r) (hr : r' = r ∨ r' = some w.heap.size) {b : Nat} (hb : okE base w (V.own ++ r :: X) b) : okE base w' (V.own ++ r' :: X) b ∧ w'.heap[b]? = w.heap[b]? :=
  okE_set (G := V.own ++ r :: X) (i := 4) rfl hg hr hb
theorem RowK.done {α : Type} {T : TypeId} {sz : Nat} {cel : α → Option Addr → Nat → Nat → List Value} {R : (Nat → Prop) → World → Option Addr → Nat → Nat → α → Prop} (hM : Moves R) (hL : ∀ x a n c, (cel x a n c).length = sz) {w : World} {p base lb : Nat} {N : NmV} {nm : Nm} {st : PenS} {V : PV} {X : List (Option Nat)} {v : Value} {out : List α}
    (hP : PenAt w p base N nm st V (v.ownBlock :: X)) (hn : out.length ≤ 100000000) (h : RowK T sz cel R (okE base w (V.own ++ v.ownBlock :: X)) w lb v out) : ∃ a c, v = .slice a out.length c ∧ Rg sz cel R (okE base w (V.own ++ X)) w a out.length c out := by
  refine h.rd hM hL hn (fun b h' => ⟨h'.1, h'.2.1, fun hm => h'.2.2 (by
    rcases List.mem_append.1 hm with hm | hm
    · exact List.mem_append_left _ hm
    · exact List.mem_append_right _ (List.mem_cons_of_mem _ hm))⟩) (fun g hg => ?_)
  have hx := hP.xs g (by rw [hg]; simp)
  refine ⟨hx.1, hx.2, fun hm => ?_⟩
  rcases List.mem_append.1 hm with hm | hm
  · exact dist_mem hP.dist hm (by rw [hg]; simp)
  · obtain ⟨i, hi⟩ := List.getElem?_of_mem hm
    exact xs_ne hP (i := 0) (j := i + 1) (a := g) (b := g) (by simp [hg]) (by simpa using hi) (by omega) rfl
theorem RowK.beside {α : Type} {T : TypeId} {sz : Nat} {cel : α → Option Addr → Nat → Nat → List Value} {R : (Nat → Prop) → World → Option Addr → Nat → Nat → α → Prop} (hM : Moves R) {w w' : World} {p base lb i j : Nat} {N : NmV} {nm : Nm} {st : PenS} {V : PV} {X X' : List (Option Nat)} {v : Value} {out : List α} {r r' : Option Nat}
    (hP : PenAt w p base N nm st V X) (hi : X[i]? = some r) (hj : X[j]? = some v.ownBlock) (hij : i ≠ j) (hX : X' = X.set i r') (hg : w.grownBy w' r) (hr : r' = r ∨ r' = some w.heap.size) (h : RowK T sz cel R (okE base w (V.own ++ X)) w lb v out) : RowK T sz cel R (okE base w' (V.own ++ X')) w' lb v out := by
  subst hX
  refine h.stay hM (fun g hgv => hg.block g (h.own hgv).2 (fun e => ?_)) (fun b hb => ?_)
  · exact xs_ne hP (i := i) (j := j) (a := g) (b := g) (by rw [hi, ← e]) (by rw [hj, hgv]) hij rfl
  · have hi' : (V.own ++ X)[4 + i]? = some r := by rw [List.getElem?_append_right (by simp [PV.own])]; simpa [PV.own] using hi
    have := okE_set hi' hg hr hb
    rwa [List.set_append_right _ _ (by simp [PV.own]), show 4 + i - V.own.length = i from by simp [PV.own]] at this
theorem Blk.beside {w w' : World} {p base i j g : Nat} {N : NmV} {nm : Nm} {st : PenS} {V : PV} {X : List (Option Nat)} {cs : List Value} {T : TypeId} {r : Option Nat} (hP : PenAt w p base N nm st V X) (hi : X[i]? = some r) (hj : X[j]? = some (some g)) (hij : i ≠ j) (hg : w.grownBy w' r) (h : Blk w g cs T) : Blk w' g cs T :=
  h.kept hg (fun e => xs_ne hP (i := i) (j := j) (a := g) (b := g) (by rw [hi, e]) hj hij rfl)
end

section
open Go.RowKit
set_option linter.unusedVariables false
set_option linter.unusedSimpArgs false
def atB (l : List Bool) (i : Nat) : Bool := (l[i]?).getD false
def atI (l : List Int) (i : Nat) : Int := (l[i]?).getD 0
def stepsN (rows : List RowF) : Nat := (rows.map fun r => r.steps.length).sum
def keptR (steps : List (Int × List Tm)) : List Int := (List.range steps.length).map fun i => ((steps[i + 1]?).map (·.1)).getD 0
def keptF (rows : List RowF) : List Int := rows.flatMap fun r => keptR r.steps
theorem keptR_len (s : List (Int × List Tm)) : (keptR s).length = s.length := by unfold keptR; simp
theorem keptF_len (rows : List RowF) : (keptF rows).length = stepsN rows := by
  unfold keptF stepsN
  rw [List.length_flatMap]
  congr 1
  exact List.map_congr_left (fun r _ => keptR_len r.steps)
def tellB (far near : Int) (before truths : List Bool) (i : Nat) (comb : Int) (old : Bool) : Bool :=
  if comb = far then (if atB before i = true then true else atB truths i) else if comb = near then atB truths i else old
def tellF (far near : Int) (kept : List Int) (before truths out : List Bool) : List Bool :=
  (List.range out.length).map fun i => match kept[i]? with
    | some c => tellB far near before truths i c (atB out i)
    | none => atB out i
theorem tellF_len (far near : Int) (kept : List Int) (before truths out : List Bool) : (tellF far near kept before truths out).length = out.length := by unfold tellF; simp
def copyB (dst src : List Bool) : List Bool := src.take dst.length ++ dst.drop src.length
def copyI (dst src : List Int) : List Int := src.take dst.length ++ dst.drop src.length
def underF (a b : List Bool) : Prop := a.length = b.length ∧ ∀ i, atB a i = true → atB b i = true
theorem atB_lt {l : List Bool} {i : Nat} (h : atB l i = true) : i < l.length := by
  unfold atB at h
  rcases Nat.lt_or_ge i l.length with hi | hi
  · exact hi
  · rw [List.getElem?_eq_none hi] at h; exact absurd h (by decide)
theorem atB_tell (far near : Int) (kept : List Int) (before truths out : List Bool) (i : Nat) (hi : i < out.length) : atB (tellF far near kept before truths out) i = match kept[i]? with
    | some c => tellB far near before truths i c (atB out i)
    | none => atB out i := by
  unfold tellF
  conv => lhs; unfold atB
  rw [List.getElem?_map, List.getElem?_range hi]
  rfl
theorem tell_mono (far near : Int) (kept : List Int) {before before' : List Bool} (truths out : List Bool) (h : ∀ i, atB before i = true → atB before' i = true) : underF (tellF far near kept before truths out) (tellF far near kept before' truths out) := by
  refine ⟨by rw [tellF_len, tellF_len], fun i hi => ?_⟩
  have hl := atB_lt hi
  rw [tellF_len] at hl
  rw [atB_tell _ _ _ _ _ _ _ hl] at hi ⊢
  cases hk : kept[i]? with
  | none => rw [hk] at hi; exact hi
  | some c =>
    rw [hk] at hi
    dsimp only at hi ⊢
    unfold tellB at hi ⊢
    by_cases hc : c = far
    · rw [if_pos hc] at hi ⊢
      by_cases hb : atB before i = true
      · rw [if_pos (h i hb)]
      · rw [if_neg hb] at hi
        by_cases hb' : atB before' i = true
        · rw [if_pos hb']
        · rw [if_neg hb']; exact hi
    · rw [if_neg hc] at hi ⊢
      exact hi
def orB (a more : List Bool) : List Bool := (List.range a.length).map fun i => atB a i || atB more i
theorem orB_len (a more : List Bool) : (orB a more).length = a.length := by unfold orB; simp
theorem atB_or (a more : List Bool) (i : Nat) (hi : i < a.length) : atB (orB a more) i = (atB a i || atB more i) := by
  unfold orB
  conv => lhs; unfold atB
  rw [List.getElem?_map, List.getElem?_range hi]
  rfl
theorem or_mono (a more : List Bool) : ∀ i, atB a i = true → atB (orB a more) i = true := fun i hi => by
  rw [atB_or a more i (atB_lt hi), hi]; rfl
theorem atB_copy (dst src : List Bool) (i : Nat) : atB (copyB dst src) i = if i < dst.length then (if i < src.length then atB src i else atB dst i) else false := by
  unfold atB copyB
  by_cases h1 : i < dst.length
  · rw [if_pos h1]
    by_cases h2 : i < src.length
    · rw [if_pos h2, List.getElem?_append_left (by rw [List.length_take]; omega), List.getElem?_take, if_pos h1]
    · rw [if_neg h2, List.getElem?_append_right (by rw [List.length_take]; omega), List.getElem?_drop, List.length_take]
      congr 2
      omega
  · rw [if_neg h1, List.getElem?_eq_none (by rw [List.length_append, List.length_take, List.length_drop]; omega)]
    rfl
theorem copyB_len (dst src : List Bool) : (copyB dst src).length = dst.length := by unfold copyB; rw [List.length_append, List.length_take, List.length_drop]; omega
theorem copyI_len (dst src : List Int) : (copyI dst src).length = dst.length := by unfold copyI; rw [List.length_append, List.length_take, List.length_drop]; omega
theorem copy_mono (dst : List Bool) {a b : List Bool} (hl : a.length = b.length) (h : ∀ i, atB a i = true → atB b i = true) : underF (copyB dst a) (copyB dst b) := by
  refine ⟨by rw [copyB_len, copyB_len], fun i hi => ?_⟩
  rw [atB_copy] at hi ⊢
  rw [← hl]
  by_cases h1 : i < dst.length
  · rw [if_pos h1] at hi ⊢
    by_cases h2 : i < a.length
    · rw [if_pos h2] at hi ⊢; exact h i hi
    · rw [if_neg h2] at hi ⊢; exact hi
  · rw [if_neg h1] at hi; cases hi
theorem tellF_get (far near : Int) (kept : List Int) (before truths outs : List Bool) (i : Nat) : (tellF far near kept before truths outs)[i]? = if i < outs.length then some (match kept[i]? with
    | some c => tellB far near before truths i c (atB outs i)
    | none => atB outs i) else none := by
  unfold tellF
  rw [List.getElem?_map]
  by_cases h : i < outs.length
  · rw [List.getElem?_range h, if_pos h]; rfl
  · rw [List.getElem?_eq_none (by rw [List.length_range]; omega), if_neg h]; rfl
theorem tellF_succ (far near : Int) {kept : List Int} (before truths outs : List Bool) {k : Nat} {c : Int} (hk : kept[k]? = some c) (hko : k < outs.length) :
    tellF far near (kept.take (k + 1)) before truths outs = (tellF far near (kept.take k) before truths outs).set k (tellB far near before truths k c (atB outs k)) := by
  apply List.ext_getElem?
  intro i
  rw [List.getElem?_set, tellF_get, tellF_get, tellF_len, List.getElem?_take, List.getElem?_take]
  by_cases hik : k = i
  · subst hik
    rw [if_pos rfl, if_pos hko, if_pos (Nat.lt_succ_self k), hk]
    rw [if_pos hko]
  · rw [if_neg hik]
    by_cases h1 : i < k
    · rw [if_pos (show i < k + 1 by omega), if_pos h1]
    · rw [if_neg (show ¬ i < k + 1 by omega), if_neg h1]
theorem tellF_nil (far near : Int) (before truths outs : List Bool) : tellF far near [] before truths outs = outs := by
  apply List.ext_getElem?
  intro i
  rw [tellF_get]
  by_cases h : i < outs.length
  · rw [if_pos h]
    unfold atB
    rw [List.getElem?_eq_getElem h]
    rfl
  · rw [if_neg h, List.getElem?_eq_none (by omega)]
theorem tellF_stay (far near : Int) {kept : List Int} (before truths outs : List Bool) {k : Nat} {c : Int} (hk : kept[k]? = some c) (hko : k < outs.length) (h1 : c ≠ far) (h2 : c ≠ near) :
    tellF far near (kept.take (k + 1)) before truths outs = tellF far near (kept.take k) before truths outs := by
  apply List.ext_getElem?
  intro i
  rw [tellF_get, tellF_get, List.getElem?_take, List.getElem?_take]
  by_cases hik : k = i
  · subst hik
    rw [if_pos (Nat.lt_succ_self k), hk, if_neg (Nat.lt_irrefl k)]
    unfold tellB
    rw [if_pos hko, if_pos hko]
    dsimp only
    rw [if_neg h1, if_neg h2]
  · by_cases h1 : i < k
    · rw [if_pos (show i < k + 1 by omega), if_pos h1]
    · rw [if_neg (show ¬ i < k + 1 by omega), if_neg h1]
end

section
open Go.RowKit
set_option linter.unusedVariables false
set_option linter.unusedSimpArgs false
structure PlV where
  aa : Option Addr
  an : Nat
  ac : Nat
  ra : Option Addr
  rn : Nat
  rc : Nat
  ca : Option Addr
  cn : Nat
  cc : Nat
  la : Option Addr
  ln : Nat
  lc : Nat
  st : Int
def PlV.cells (P : PlV) : List Value := [.slice P.aa P.an P.ac, .slice P.ra P.rn P.rc, .slice P.ca P.cn P.cc, .slice P.la P.ln P.lc, .int .i64 P.st]
def PlV.val (P : PlV) : Value := .agg #[.slice P.aa P.an P.ac, .slice P.ra P.rn P.rc, .slice P.ca P.cn P.cc, .slice P.la P.ln P.lc, .int .i64 P.st]
structure PlRd (ok : Nat → Prop) (w : World) (P : PlV) (rows : List RowF) (ctrs : List CtF) : Prop where
  rows : Rg 3 roCells RRo ok w P.ra P.rn P.rc rows
  ctrs : Rg 3 ctCells RCt ok w P.ca P.cn P.cc ctrs
theorem PlRd.move {ok ok' : Nat → Prop} {w w' : World} {P : PlV} {rows : List RowF} {ctrs : List CtF} (h : PlRd ok w P rows ctrs) (ho : ∀ b, ok b → ok' b ∧ w'.heap[b]? = w.heap[b]?) : PlRd ok' w' P rows ctrs :=
  ⟨Rg_moves RRo_moves _ _ _ _ _ _ _ _ ho h.rows, Rg_moves RCt_moves _ _ _ _ _ _ _ _ ho h.ctrs⟩
theorem PlRd.later {w w' : World} {P : PlV} {rows : List RowF} {ctrs : List CtF} (h : PlRd (· < w.heap.size) w P rows ctrs) (hb : Below w.heap.size w w') : PlRd (· < w'.heap.size) w' P rows ctrs :=
  h.move (fun b hb' => ⟨Nat.lt_of_lt_of_le hb' hb.size, hb.block b hb'⟩)
def BoolsAt (ok : Nat → Prop) (w : World) (a : Option Addr) (n c : Nat) (bs : List Bool) : Prop := RsOf ok 1 (fun b o (x : Bool) => w.cell? ⟨b, o, none⟩ = some (.bool x)) a n c bs
theorem BoolsAt.move {ok ok' : Nat → Prop} {w w' : World} {a : Option Addr} {n c : Nat} {bs : List Bool} (h : BoolsAt ok w a n c bs) (ho : ∀ b, ok b → ok' b ∧ w'.heap[b]? = w.heap[b]?) : BoolsAt ok' w' a n c bs :=
  RsOf.imp h (fun b hb => (ho b hb).1) (fun b o x hb hx => (cell_sameS (ho b hb).2 _).trans hx)
theorem IntsAt.move {ok ok' : Nat → Prop} {w w' : World} {a : Option Addr} {n c : Nat} {xs : List Int} (h : IntsAt ok w a n c xs) (ho : ∀ b, ok b → ok' b ∧ w'.heap[b]? = w.heap[b]?) : IntsAt ok' w' a n c xs := IntsAt_moves _ _ _ _ _ _ _ _ ho h
theorem stepsN_snoc (rows : List RowF) (r : RowF) : stepsN (rows ++ [r]) = stepsN rows + r.steps.length := by unfold stepsN; simp
theorem stepsN_take (rows : List RowF) (k : Nat) : stepsN (rows.take k) ≤ stepsN rows := sum_take (fun r : RowF => r.steps.length) rows k
set_option maxRecDepth 100000 in
set_option maxHeartbeats 4000000 in
theorem steps_any {w : World} {P : PlV} {rows : List RowF} {ctrs : List CtF} (h : PlRd (· < w.heap.size) w P rows ctrs) (hs : stepsN rows ≤ 1000000) :
    Calls Tryz.prog 27 #[P.val] w (Told (.int .i64 (stepsN rows : Nat)) w) := by
  have hb0 := (Below.refl w.heap.size w).alloc (Nat.le_refl _) (.cells #[.slice P.aa P.an P.ac, .slice P.ra P.rn P.rc, .slice P.ca P.cn P.cc, .slice P.la P.ln P.lc, .int .i64 P.st] 37)
  have HB0 := Lib.hid hb0
  have D0 := Lib.hid (show Blk (w.alloc (.cells #[.slice P.aa P.an P.ac, .slice P.ra P.rn P.rc, .slice P.ca P.cn P.cc, .slice P.la P.ln P.lc, .int .i64 P.st] 37)) w.heap.size [.slice P.aa P.an P.ac, .slice P.ra P.rn P.rc, .slice P.ca P.cn P.cc, .slice P.la P.ln P.lc, .int .i64 P.st] 37 from Blk.alloc [.slice P.aa P.an P.ac, .slice P.ra P.rn P.rc, .slice P.ca P.cn P.cc, .slice P.la P.ln P.lc, .int .i64 P.st] _)
  have z1 := D0.out.cell 1 _ rfl
  obtain ⟨aa, an, ac, ra, n, rc, ca, cn, cc, la, ln, lc, st⟩ := P
  dsimp only at *
  have HX : Hid (Rg 3 roCells RRo (· < w.heap.size) w ra n rc rows) := Lib.hid h.rows
  have HXN := Lib.hid (show n = rows.length from h.rows.1)
  have hnm : n ≤ 140737488351232 := h.rows.2.2.1.2
  have HS := Lib.hid hs
  clear h hs hb0
  unfold PlV.val
  dsimp only
  go_enter Tryz.func27, Tryz.ntmps27
  go_wp2
  go_loopw [2, 8] (fun sv iv wr => ∃ i : Nat, i ≤ n ∧ iv = .int .i64 i ∧ sv = .int .i64 (stepsN (rows.take i) : Nat) ∧ Hid (Below w.heap.size w wr)) (fun _ iv _ => n - (intOf iv).toNat)
  case atStart => exact ⟨0, Nat.zero_le _, rfl, rfl, HB0⟩
  case round =>
    obtain ⟨i, hi, rfl, rfl, HB⟩ := hrel
    by_cases hlt : i < n
    · obtain ⟨r, hr⟩ : ∃ r, rows[i]? = some r := ⟨_, List.getElem?_eq_getElem (by rw [← HXN.out]; exact hlt)⟩
      obtain ⟨b, off, rfl, hb, sa, sn, sc, hc, hk⟩ := HX.out.at i r hr
      have u0 : wr.cell? ⟨b, off + i * 3, none⟩ = some (.int .i64 (r.first : Nat)) := (HB.out.cell (p := ⟨b, off + i * 3, none⟩) hb).trans (hc 0 _ rfl)
      have u1 : wr.cell? ⟨b, off + i * 3 + 1, none⟩ = some (.slice sa sn sc) := (HB.out.cell (p := ⟨b, off + i * 3 + 1, none⟩) hb).trans (hc 1 _ rfl)
      have u2 : wr.cell? ⟨b, off + i * 3 + 2, none⟩ = some (.string r.pseudo) := (HB.out.cell (p := ⟨b, off + i * 3 + 2, none⟩) hb).trans (hc 2 _ rfl)
      have hiI : (0 : Int) ≤ (i : Int) := by omega
      have hiI2 : (i : Int) < (n : Int) := by omega
      have HSN := Lib.hid (show stepsN (rows.take (i + 1)) = stepsN (rows.take i) + sn from by rw [take_snoc hr, stepsN_snoc, ← hk.1])
      have hle := stepsN_take rows (i + 1)
      rw [HSN.out] at hle
      have hle2 : stepsN (rows.take i) + sn ≤ 1000000 := Nat.le_trans hle HS.out
      have HB1 := Lib.hid (HB.out.alloc HB.out.size (.cells #[.int .i64 (r.first : Nat), .slice sa sn sc, .string r.pseudo] 78))
      have D1 := Lib.hid (show Blk (wr.alloc (.cells #[.int .i64 (r.first : Nat), .slice sa sn sc, .string r.pseudo] 78)) wr.heap.size [.int .i64 (r.first : Nat), .slice sa sn sc, .string r.pseudo] 78 from Blk.alloc [.int .i64 (r.first : Nat), .slice sa sn sc, .string r.pseudo] _)
      have y1 := D1.out.cell 1 _ rfl
      generalize hq : stepsN (rows.take i) = q at *
      clear hr hc hk hle hb hq
      go_wp2
      go_roundw
      case rel => exact ⟨i + 1, by omega, by go_num, by rw [HSN.out]; go_num, HB1⟩
      case measure => simp [intOf]; omega
    · obtain rfl : i = n := by omega
      have hiI2 : ¬ (i : Int) < (i : Int) := by omega
      have HTK := Lib.hid (show rows.take i = rows from List.take_of_length_le (by rw [← HXN.out]; exact Nat.le_refl _))
      rw [HTK.out]
      go_wp2
      go_ret
      exact ⟨rfl, HB.out⟩
def atBI (l : List Bool) (i : Int) : Bool := if i < 0 then false else atB l i.toNat
theorem atBI_nat (l : List Bool) (i : Nat) : atBI l (i : Int) = atB l i := by unfold atBI; rw [if_neg (by omega)]; rfl
set_option maxRecDepth 100000 in
set_option maxHeartbeats 1000000 in
theorem atb_any {w : World} {a : Option Addr} {n c : Nat} {bs : List Bool} (h : BoolsAt (· < w.heap.size) w a n c bs) (i : Int) :
    Calls Tryz.prog 31 #[.slice a n c, .int .i64 i] w (Told (.bool (atBI bs i)) w) := by
  have hn : n = bs.length := h.1
  by_cases h0 : i < 0
  · have q0 : decide (i < 0) = true := decide_eq_true h0
    rw [show atBI bs i = false from by unfold atBI; rw [if_pos h0]]
    go_enter Tryz.func31, Tryz.ntmps31
    go_wp2
    go_ret
    exact ⟨rfl, Below.refl _ _⟩
  have q0 : decide (i < 0) = false := decide_eq_false h0
  by_cases h1 : (n : Int) ≤ i
  · have q1 : decide ((n : Int) ≤ i) = true := decide_eq_true h1
    rw [show atBI bs i = false from by unfold atBI atB; rw [if_neg h0, List.getElem?_eq_none (by omega)]; rfl]
    go_enter Tryz.func31, Tryz.ntmps31
    go_wp2
    go_ret
    exact ⟨rfl, Below.refl _ _⟩
  have q1 : decide ((n : Int) ≤ i) = false := decide_eq_false h1
  obtain ⟨k, rfl⟩ : ∃ k : Nat, i = (k : Int) := ⟨i.toNat, by omega⟩
  obtain ⟨x, hx⟩ : ∃ x, bs[k]? = some x := ⟨_, List.getElem?_eq_getElem (by omega)⟩
  obtain ⟨b, off, rfl, hb, hc⟩ := h.at k x hx
  rw [Nat.mul_one] at hc
  have hi1 : (0 : Int) ≤ (k : Int) := by omega
  have hi2 : (k : Int) < (n : Int) := by omega
  rw [show atBI bs (k : Int) = x from by rw [atBI_nat]; unfold atB; rw [hx]; rfl]
  clear h hx hb
  go_enter Tryz.func31, Tryz.ntmps31
  go_wp2
  go_ret
  exact ⟨rfl, Below.refl _ _⟩
end

section
open Go.RowKit
set_option linter.unusedVariables false
set_option linter.unusedSimpArgs false
def BoolBlk (w : World) (u : Nat) (l : List Bool) : Prop := Blk w u (l.map .bool) 4
def TellP (u : Nat) (l : List Bool) (w : World) (e : Ending) (w' : World) : Prop := e = .returned (.tuple #[]) ∧ BoolBlk w' u l ∧ w.grownBy w' (some u)
theorem grown_later {w wo w1 : World} {r : Option Nat} (h : w.grownBy wo r) (hb : Below wo.heap.size wo w1) : w.grownBy w1 r :=
  ⟨hb.os.trans h.os, hb.tape.trans h.tape, hb.output.trans h.output, Nat.le_trans h.size hb.size, fun k hk hr => (hb.block k (Nat.lt_of_lt_of_le hk h.size)).trans (h.block k hk hr)⟩
theorem grown_write {w wo : World} {u : Nat} (h : w.grownBy wo (some u)) (i : Nat) (v : Value) : w.grownBy (wo.setCell ⟨u, i, none⟩ v) (some u) := by
  have hs := grown_setCell wo u i v
  exact ⟨hs.os.trans h.os, hs.tape.trans h.tape, hs.output.trans h.output, Nat.le_trans h.size hs.size, fun k hk hr => (hs.block k (Nat.lt_of_lt_of_le hk h.size) hr).trans (h.block k hk hr)⟩
theorem BoolBlk.set {w : World} {u i : Nat} {l : List Bool} (h : BoolBlk w u l) (x : Bool) : BoolBlk (w.setCell ⟨u, i, none⟩ (.bool x)) u (l.set i x) := by
  unfold BoolBlk
  rw [List.map_set]
  exact Blk.setCell h i _
theorem atB_get {l : List Bool} {k : Nat} (h : k < l.length) : l[k]? = some (atB l k) := by unfold atB; rw [List.getElem?_eq_getElem h]; rfl
set_option maxRecDepth 100000 in
set_option maxHeartbeats 4000000 in
theorem tell_any {w : World} {u n : Nat} {outs : List Bool} (far near : Int) {ka : Option Addr} {kn kc : Nat} {kept : List Int} {ba : Option Addr} {bn bc : Nat} {before : List Bool} {ta : Option Addr} {tn tc : Nat} {truths : List Bool}
    (hu : BoolBlk w u outs) (hn : outs.length = n) (hk : IntsAt (fun b => b < w.heap.size ∧ b ≠ u) w ka kn kc kept) (hkn : kept.length ≤ n) (hb : BoolsAt (fun b => b < w.heap.size ∧ b ≠ u) w ba bn bc before) (ht : BoolsAt (fun b => b < w.heap.size ∧ b ≠ u) w ta tn tc truths) (hnm : n ≤ 140737488351232) :
    Calls Tryz.prog 19 #[.slice (some ⟨u, 0, none⟩) n n, .slice ka kn kc, .int .i64 far, .int .i64 near, .slice ba bn bc, .slice ta tn tc] w (TellP u (tellF far near kept before truths outs) w) := by
  have HK := Lib.hid hk
  have HKN := Lib.hid (show kn = kept.length from hk.1)
  have HKL := Lib.hid hkn
  have HB := Lib.hid hb
  have HT := Lib.hid ht
  have HON := Lib.hid hn
  have HU := Lib.hid (show BoolBlk w u (tellF far near (kept.take 0) before truths outs) from by rw [List.take_zero, tellF_nil]; exact hu)
  have hknm : kn ≤ 140737488351232 := hk.2.2.1.2
  have HUL := Lib.hid (show u < w.heap.size from hu.lt)
  clear hu hn hk hkn hb ht
  go_enter Tryz.func19, Tryz.ntmps19
  go_wp2
  go_loopw [16] (fun iv wr => ∃ i : Nat, i ≤ kn ∧ iv = .int .i64 i ∧ Hid (BoolBlk wr u (tellF far near (kept.take i) before truths outs)) ∧ Hid (w.grownBy wr (some u))) (fun iv _ => kn - (intOf iv).toNat)
  case atStart => exact ⟨0, Nat.zero_le _, rfl, HU, Lib.hid (World.grownBy.refl _ _)⟩
  case round =>
    obtain ⟨i, hi, rfl, HR, HG⟩ := hrel
    obtain ⟨wo, hwo⟩ : ∃ wo, wo = wr := ⟨_, rfl⟩
    subst hwo
    by_cases hlt : i < kn
    · obtain ⟨cc, hcc⟩ : ∃ cc, kept[i]? = some cc := ⟨_, List.getElem?_eq_getElem (by rw [← HKN.out]; exact hlt)⟩
      obtain ⟨b, off, rfl, hb, hc⟩ := HK.out.at i cc hcc
      rw [Nat.mul_one] at hc
      have HST := fun b (hb : b < w.heap.size ∧ b ≠ u) => HG.out.block b hb.1 (fun e => hb.2 (Option.some.inj e))
      have u0 : wo.cell? ⟨b, off + i, none⟩ = some (.int .i64 cc) := (cell_sameS (HST b hb) _).trans hc
      have hiI : (0 : Int) ≤ (i : Int) := by omega
      have hiI2 : (i : Int) < (kn : Int) := by omega
      have hin : i < n := by have := HKL.out; have := HKN.out; omega
      have hinI : (i : Int) < (n : Int) := by omega
      have hio : i < outs.length := by rw [HON.out]; exact hin
      have fB := atb_any (w := wo) (HB.out.move (ok' := (· < wo.heap.size)) (fun b hb => ⟨Nat.lt_of_lt_of_le hb.1 HG.out.size, HST b hb⟩)) (i : Int)
      have fT := fun (w1 : World) (hb1 : Below wo.heap.size wo w1) => atb_any (w := w1) (HT.out.move (ok' := (· < w1.heap.size)) (fun b hb => ⟨Nat.lt_of_lt_of_le hb.1 (Nat.le_trans HG.out.size hb1.size), (hb1.block b (Nat.lt_of_lt_of_le hb.1 HG.out.size)).trans (HST b hb)⟩)) (i : Int)
      rw [atBI_nat] at fB
      simp only [atBI_nat] at fT
      have HFT := Lib.hid fT
      have hcur : (tellF far near (kept.take i) before truths outs)[i]? = some (atB (tellF far near (kept.take i) before truths outs) i) := atB_get (by rw [tellF_len]; exact hio)
      have HNX := Lib.hid (tellF_succ far near before truths outs hcc hio)
      have HSY := Lib.hid (tellF_stay far near before truths outs hcc hio)
      have HNB := Lib.hid (show Below wo.heap.size wo wo from Below.refl _ _)
      generalize hql : tellF far near (kept.take i) before truths outs = cur at *
      generalize atB cur i = old at *
      have HCU := Lib.hid (show (cur.map Value.bool)[i]? = some (.bool old) from by rw [List.getElem?_map, hcur]; rfl)
      clear hc hcc hb hcur hql HST fT
      by_cases hf : cc = far
      · subst hf
        have qf : (cc == cc) = true := beq_self_eq_true cc
        cases hbv : atB before i with
        | true =>
          rw [hbv] at fB
          have HVAL := Lib.hid (show tellB cc near before truths i cc (atB outs i) = true from by unfold tellB; rw [if_pos rfl, if_pos hbv])
          clear hbv
          go_wp2_with (go_at_call 31; (with_reducible refine fB.mono ?_); rintro e w1 ⟨rfl, hb1⟩; have hR1 := HR.out.later hb1 HR.out.lt; have R1 := Lib.hid (show BoolBlk w1 u cur from hR1); have G1 := Lib.hid (grown_later HG.out hb1); have d0 := hR1.cell i _ HCU.out; have g0 := hR1.frozen i; clear hR1)
          clear d0 g0
          go_roundw
          case rel => exact ⟨i + 1, by omega, by go_num, Lib.hid (by rw [HNX.out, HVAL.out]; exact R1.out.set _), Lib.hid (grown_write G1.out _ _)⟩
          case measure => simp [intOf]; omega
        | false =>
          rw [hbv] at fB
          have HVAL := Lib.hid (show tellB cc near before truths i cc (atB outs i) = atB truths i from by unfold tellB; rw [if_pos rfl, if_neg (by rw [hbv]; decide)])
          clear hbv
          go_wp2_with (first
            | (go_at_call 31; (with_reducible refine fB.mono ?_); rintro e w1 ⟨rfl, hb1⟩; have H1 := Lib.hid hb1; clear fB)
            | (go_at_call 31; (with_reducible refine (HFT.out _ H1.out).mono ?_); rintro e w2 ⟨rfl, hb2⟩; have hb3 := below_trans H1.out hb2; have hR1 := HR.out.later hb3 HR.out.lt; have R1 := Lib.hid (show BoolBlk w2 u cur from hR1); have G1 := Lib.hid (grown_later HG.out hb3); have d0 := hR1.cell i _ HCU.out; have g0 := hR1.frozen i; clear hR1 hb3))
          clear d0 g0
          go_roundw
          case rel => exact ⟨i + 1, by omega, by go_num, Lib.hid (by rw [HNX.out, HVAL.out]; exact R1.out.set _), Lib.hid (grown_write G1.out _ _)⟩
          case measure => simp [intOf]; omega
      · have qf : (cc == far) = false := beq_eq_false_iff_ne.2 hf
        by_cases hnr : cc = near
        · subst hnr
          have qn : (cc == cc) = true := beq_self_eq_true cc
          have HVAL := Lib.hid (show tellB far cc before truths i cc (atB outs i) = atB truths i from by unfold tellB; rw [if_neg hf, if_pos rfl])
          go_wp2_with (go_at_call 31; (with_reducible refine (HFT.out _ HNB.out).mono ?_); rintro e w2 ⟨rfl, hb2⟩; have hR1 := HR.out.later hb2 HR.out.lt; have R1 := Lib.hid (show BoolBlk w2 u cur from hR1); have G1 := Lib.hid (grown_later HG.out hb2); have d0 := hR1.cell i _ HCU.out; have g0 := hR1.frozen i; clear hR1)
          clear d0 g0
          go_roundw
          case rel => exact ⟨i + 1, by omega, by go_num, Lib.hid (by rw [HNX.out, HVAL.out]; exact R1.out.set _), Lib.hid (grown_write G1.out _ _)⟩
          case measure => simp [intOf]; omega
        · have qn : (cc == near) = false := beq_eq_false_iff_ne.2 hnr
          have HRN := Lib.hid (show BoolBlk wo u (tellF far near (kept.take (i + 1)) before truths outs) from by rw [HSY.out hf hnr]; exact HR.out)
          go_wp2
          go_roundw
          case rel => exact ⟨i + 1, by omega, by go_num, HRN, HG⟩
          case measure => simp [intOf]; omega
    · obtain rfl : i = kn := by omega
      have hiI2 : ¬ (i : Int) < (i : Int) := by omega
      have HTK := Lib.hid (show kept.take i = kept from List.take_of_length_le (by rw [← HKN.out]; exact Nat.le_refl _))
      rw [HTK.out] at HR
      go_wp2
      refine bodyPost_ret (results_none rfl _ _ _) rfl ?_
      exact ⟨rfl, HR.out, HG.out⟩
end

section
open Go.RowKit
set_option linter.unusedVariables false
set_option linter.unusedSimpArgs false
theorem make5_any (t e : TypeId) (z : Value) (sz bytes : Nat) (ht : Tryz.prog.underlying t = some (.slice e)) (hinfo : (Tryz.prog.info? e).map (fun i => (i.zero, i.size, i.bytes)) = some (some z, sz, bytes))
    (n : Nat) (hbytes : bytes * n ≤ 281474976710656) (h63 : n ≤ 9223372036854775807) (w : World) :
    (Instr.makeSlice t (.int .i64 (n : Int)) (.int .i64 (n : Int))).run Tryz.prog w = .ok (.slice (some ⟨w.heap.size, 0, none⟩) n n) (w.alloc (.cells (madeCells z.cells (n * sz)) e)) := by
  obtain ⟨i, hi, hzz⟩ := Option.map_eq_some_iff.1 hinfo
  simp only [Prod.mk.injEq] at hzz
  obtain ⟨hz, hs, hb⟩ := hzz
  have hb' : (i.bytes : Int) * (n : Int) ≤ 281474976710656 := by
    have h : ((i.bytes * n : Nat) : Int) ≤ 281474976710656 := by rw [hb]; omega
    rwa [Int.natCast_mul] at h
  have hr := run_make (P := Tryz.prog) w t e i z ht hi hz .i64 .i64 n n (by omega) (Int.le_refl _) hb' (by omega)
  simp only [Int.toNat_natCast] at hr
  rw [hs] at hr
  exact hr
theorem TryzinfoBl : (Tryz.prog.info? 4).map (fun i => (i.zero, i.size, i.bytes)) = some (some (.bool false), 1, 1) := by kernel_rfl
theorem TryzinfoIn : (Tryz.prog.info? 3).map (fun i => (i.zero, i.size, i.bytes)) = some (some (.int .i64 0), 1, 8) := by kernel_rfl
theorem made_one (w : World) (z : Value) (n : Nat) (T : TypeId) : Blk (w.alloc (.cells (madeCells #[z] n) T)) w.heap.size (List.replicate n z) T := by
  have h := Blk.alloc (w := w) (madeCells #[z] n).toList T
  rw [Array.toArray_toList] at h
  rw [toList_madeCells_one] at h
  exact h
def IntBlk (w : World) (u : Nat) (l : List Int) : Prop := Blk w u (l.map (.int .i64)) 3
structure CtxAt (w' : World) (base : Nat) (u l k : Nat) (up left : List Bool) (cnt : List Int) : Prop where
  nu : base ≤ u
  nl : base ≤ l
  nk : base ≤ k
  ul : u ≠ l
  uk : u ≠ k
  lk : l ≠ k
  up : BoolBlk w' u up
  left : BoolBlk w' l left
  cnt : IntBlk w' k cnt
def ctxV (root : Bool) (u l k n m : Nat) : Value := .agg #[.bool root, .slice (some ⟨u, 0, none⟩) n n, .slice (some ⟨l, 0, none⟩) n n, .slice (some ⟨k, 0, none⟩) m m]
def NewCtx (root : Bool) (n m : Nat) (up left : List Bool) (cnt : List Int) (w : World) (e : Ending) (w' : World) : Prop :=
  ∃ u l k : Nat, e = .returned (ctxV root u l k n m) ∧ CtxAt w' w.heap.size u l k up left cnt ∧ Below w.heap.size w w'
theorem newCtx_mk {root : Bool} {n m u l k : Nat} {up left : List Bool} {cnt : List Int} {w w' : World} (h : CtxAt w' w.heap.size u l k up left cnt) (hb : Below w.heap.size w w') : NewCtx root n m up left cnt w (.returned (ctxV root u l k n m)) w' := ⟨u, l, k, rfl, h, hb⟩
theorem boolBlk_rep {w : World} {u n : Nat} (h : Blk w u (List.replicate n (.bool false)) 4) : BoolBlk w u (List.replicate n false) := by unfold BoolBlk; rw [List.map_replicate]; exact h
theorem intBlk_rep {w : World} {u n : Nat} (h : Blk w u (List.replicate n (.int .i64 0)) 3) : IntBlk w u (List.replicate n 0) := by unfold IntBlk; rw [List.map_replicate]; exact h
theorem CtxAt.drew {w' : World} {base u l k : Nat} {up left : List Bool} {cnt : List Int} (h : CtxAt w' base u l k up left cnt) : CtxAt w'.drew base u l k up left cnt := ⟨h.nu, h.nl, h.nk, h.ul, h.uk, h.lk, h.up, h.left, h.cnt⟩
theorem CtxAt.stay {w w' : World} {base u l k : Nat} {up left : List Bool} {cnt : List Int} (h : CtxAt w base u l k up left cnt) (ho : ∀ b, b = u ∨ b = l ∨ b = k → w'.heap[b]? = w.heap[b]?) : CtxAt w' base u l k up left cnt :=
  ⟨h.nu, h.nl, h.nk, h.ul, h.uk, h.lk, (ho u (.inl rfl)).trans h.up, (ho l (.inr (.inl rfl))).trans h.left, (ho k (.inr (.inr rfl))).trans h.cnt⟩
theorem fresh_fin {w w2 w3 : World} {n m u l k : Nat} {x0 x1 x2 x3 : Value} (hB : Below w.heap.size w w3) (hs : w.heap.size + 2 ≤ w2.heap.size) (hu : BoolBlk w3 u (List.replicate n false)) (hl : BoolBlk w3 l (List.replicate n false)) (hk : IntBlk w3 k (List.replicate m 0))
    (nu : w2.heap.size ≤ u) (nl : w2.heap.size ≤ l) (nk : w2.heap.size ≤ k) (ul : u ≠ l) (uk : u ≠ k) (lk : l ≠ k) (hE : Blk w3 (w.heap.size + 1) [x0, x1, x2, x3] 29) :
    ((w3.setCell ⟨w.heap.size + 1, 0, none⟩ (.bool false)).cell? ⟨w.heap.size + 1, 0, none⟩ = some (.bool false) ∧ ((w3.setCell ⟨w.heap.size + 1, 0, none⟩ (.bool false)).setCell ⟨w.heap.size + 1, 1, none⟩ (.slice (some ⟨u, 0, none⟩) n n)).cell? ⟨w.heap.size + 1, 1, none⟩ = some (.slice (some ⟨u, 0, none⟩) n n) ∧ (((w3.setCell ⟨w.heap.size + 1, 0, none⟩ (.bool false)).setCell ⟨w.heap.size + 1, 1, none⟩ (.slice (some ⟨u, 0, none⟩) n n)).setCell ⟨w.heap.size + 1, 2, none⟩ (.slice (some ⟨l, 0, none⟩) n n)).cell? ⟨w.heap.size + 1, 2, none⟩ = some (.slice (some ⟨l, 0, none⟩) n n) ∧ ((((w3.setCell ⟨w.heap.size + 1, 0, none⟩ (.bool false)).setCell ⟨w.heap.size + 1, 1, none⟩ (.slice (some ⟨u, 0, none⟩) n n)).setCell ⟨w.heap.size + 1, 2, none⟩ (.slice (some ⟨l, 0, none⟩) n n)).setCell ⟨w.heap.size + 1, 3, none⟩ (.slice (some ⟨k, 0, none⟩) m m)).cell? ⟨w.heap.size + 1, 3, none⟩ = some (.slice (some ⟨k, 0, none⟩) m m)) ∧
    CtxAt ((((w3.setCell ⟨w.heap.size + 1, 0, none⟩ (.bool false)).setCell ⟨w.heap.size + 1, 1, none⟩ (.slice (some ⟨u, 0, none⟩) n n)).setCell ⟨w.heap.size + 1, 2, none⟩ (.slice (some ⟨l, 0, none⟩) n n)).setCell ⟨w.heap.size + 1, 3, none⟩ (.slice (some ⟨k, 0, none⟩) m m)) w.heap.size u l k (List.replicate n false) (List.replicate n false) (List.replicate m 0) ∧
    Below w.heap.size w ((((w3.setCell ⟨w.heap.size + 1, 0, none⟩ (.bool false)).setCell ⟨w.heap.size + 1, 1, none⟩ (.slice (some ⟨u, 0, none⟩) n n)).setCell ⟨w.heap.size + 1, 2, none⟩ (.slice (some ⟨l, 0, none⟩) n n)).setCell ⟨w.heap.size + 1, 3, none⟩ (.slice (some ⟨k, 0, none⟩) m m)) := by
  have e0 := hE.setCell 0 (.bool false)
  have e1 := e0.setCell 1 (.slice (some ⟨u, 0, none⟩) n n)
  have e2 := e1.setCell 2 (.slice (some ⟨l, 0, none⟩) n n)
  have e3 := e2.setCell 3 (.slice (some ⟨k, 0, none⟩) m m)
  refine ⟨⟨e0.cell 0 _ rfl, e1.cell 1 _ rfl, e2.cell 2 _ rfl, e3.cell 3 _ rfl⟩, ?_, ?_⟩
  · have hC : CtxAt w3 w.heap.size u l k (List.replicate n false) (List.replicate n false) (List.replicate m 0) := ⟨by omega, by omega, by omega, ul, uk, lk, hu, hl, hk⟩
    have hst : ∀ (wx : World) (i : Nat) (v : Value), CtxAt wx w.heap.size u l k (List.replicate n false) (List.replicate n false) (List.replicate m 0) → CtxAt (wx.setCell ⟨w.heap.size + 1, i, none⟩ v) w.heap.size u l k (List.replicate n false) (List.replicate n false) (List.replicate m 0) := fun wx i v h =>
      ⟨h.nu, h.nl, h.nk, ul, uk, lk, Blk.kept h.up (grown_setCell _ _ _ _) (fun e => by have := Option.some.inj e; omega), Blk.kept h.left (grown_setCell _ _ _ _) (fun e => by have := Option.some.inj e; omega), Blk.kept h.cnt (grown_setCell _ _ _ _) (fun e => by have := Option.some.inj e; omega)⟩
    exact hst _ _ _ (hst _ _ _ (hst _ _ _ (hst _ _ _ hC)))
  · exact (((hB.setCell (p := ⟨w.heap.size + 1, 0, none⟩) (by simp) _).setCell (p := ⟨w.heap.size + 1, 1, none⟩) (by simp) _).setCell (p := ⟨w.heap.size + 1, 2, none⟩) (by simp) _).setCell (p := ⟨w.heap.size + 1, 3, none⟩) (by simp) _
set_option maxRecDepth 100000 in
set_option maxHeartbeats 4000000 in
theorem fresh_any {w : World} {P : PlV} {rows : List RowF} {ctrs : List CtF} (h : PlRd (· < w.heap.size) w P rows ctrs) (hs : stepsN rows ≤ 1000000) (hm : ctrs.length ≤ 1000000) :
    Calls Tryz.prog 18 #[P.val] w (NewCtx false (stepsN rows) ctrs.length (List.replicate (stepsN rows) false) (List.replicate (stepsN rows) false) (List.replicate ctrs.length 0) w) := by
  have hb0 := (Below.refl w.heap.size w).alloc (Nat.le_refl _) (.cells #[.slice P.aa P.an P.ac, .slice P.ra P.rn P.rc, .slice P.ca P.cn P.cc, .slice P.la P.ln P.lc, .int .i64 P.st] 37)
  have hb1 := hb0.alloc hb0.size (.cells #[.bool false, .slice none 0 0, .slice none 0 0, .slice none 0 0] 29)
  have HB1 := Lib.hid hb1
  have HZ1 := Lib.hid (show ((w.alloc (.cells #[.slice P.aa P.an P.ac, .slice P.ra P.rn P.rc, .slice P.ca P.cn P.cc, .slice P.la P.ln P.lc, .int .i64 P.st] 37)).alloc (.cells #[.bool false, .slice none 0 0, .slice none 0 0, .slice none 0 0] 29)).heap.size = w.heap.size + 2 from by simp)
  have HZ1 := Lib.hid (show ((w.alloc (.cells #[.slice P.aa P.an P.ac, .slice P.ra P.rn P.rc, .slice P.ca P.cn P.cc, .slice P.la P.ln P.lc, .int .i64 P.st] 37)).alloc (.cells #[.bool false, .slice none 0 0, .slice none 0 0, .slice none 0 0] 29)).heap.size = w.heap.size + 2 from by simp)
  have HZ1 := Lib.hid (show ((w.alloc (.cells #[.slice P.aa P.an P.ac, .slice P.ra P.rn P.rc, .slice P.ca P.cn P.cc, .slice P.la P.ln P.lc, .int .i64 P.st] 37)).alloc (.cells #[.bool false, .slice none 0 0, .slice none 0 0, .slice none 0 0] 29)).heap.size = w.heap.size + 2 from by simp)
  have D0 := Lib.hid ((Blk.alloc (w := w) (T := 37) [.slice P.aa P.an P.ac, .slice P.ra P.rn P.rc, .slice P.ca P.cn P.cc, .slice P.la P.ln P.lc, .int .i64 P.st]).alloc_old (.cells #[.bool false, .slice none 0 0, .slice none 0 0, .slice none 0 0] 29))
  have hD1 := (Blk.alloc (w := w.alloc (.cells #[.slice P.aa P.an P.ac, .slice P.ra P.rn P.rc, .slice P.ca P.cn P.cc, .slice P.la P.ln P.lc, .int .i64 P.st] 37)) (T := 29) [.bool false, .slice none 0 0, .slice none 0 0, .slice none 0 0])
  rw [show (w.alloc (.cells #[.slice P.aa P.an P.ac, .slice P.ra P.rn P.rc, .slice P.ca P.cn P.cc, .slice P.la P.ln P.lc, .int .i64 P.st] 37)).heap.size = w.heap.size + 1 from by simp] at hD1
  have D1 := Lib.hid hD1
  clear hD1
  have y0 := D0.out.cell 0 _ rfl
  have y1 := D0.out.cell 1 _ rfl
  have y2 := D0.out.cell 2 _ rfl
  have y3 := D0.out.cell 3 _ rfl
  have y4 := D0.out.cell 4 _ rfl
  have fS := steps_any (h.later hb1) hs
  have hcn : P.cn = ctrs.length := h.ctrs.1
  rw [← hcn] at hm ⊢
  have hm1 := fun (w : World) => make5_any 26 4 _ 1 1 Tryz.underlying26 TryzinfoBl (stepsN rows) (by omega) (by omega) w
  have hm2 := fun (w : World) => make5_any 27 3 _ 1 8 Tryz.underlying27 TryzinfoIn P.cn (by omega) (by omega) w
  generalize stepsN rows = n at *
  clear h hcn hs hb0 hb1
  obtain ⟨aa, an, ac, ra, rn, rc, ca, m, cc, la, ln, lc, st⟩ := P
  dsimp only at *
  unfold PlV.val at fS ⊢
  dsimp only at *
  go_enter Tryz.func18, Tryz.ntmps18
  go_wp2_with (go_at_call 27; (with_reducible refine fS.mono ?_); rintro e w2 ⟨rfl, hb2⟩; have B2 := Lib.hid (HB1.out.trans (hb2.mono HB1.out.size)); have HSZ := Lib.hid (Nat.le_trans (Nat.le_of_eq HZ1.out.symm) hb2.size); have HSZ := Lib.hid (Nat.le_trans (Nat.le_of_eq HZ1.out.symm) hb2.size); have HSZ := Lib.hid (Nat.le_trans (Nat.le_of_eq HZ1.out.symm) hb2.size); have E0 := Lib.hid (D0.out.later hb2 D0.out.lt); have E1 := Lib.hid (D1.out.later hb2 D1.out.lt); clear hb2)
  have e2 : w2.drew.cell? ⟨w.heap.size, 2, none⟩ = some (.slice ca m cc) := E0.out.cell 2 _ rfl
  have e2a := (E0.out.alloc_old (.cells (madeCells #[.bool false] n) 4)).cell 2 _ rfl
  have e2b := ((E0.out.alloc_old (.cells (madeCells #[.bool false] n) 4)).alloc_old (.cells (madeCells #[.bool false] n) 4)).cell 2 _ rfl
  have F112 := Lib.hid (((E1.out.alloc_old (.cells (madeCells #[.bool false] n) 4)).alloc_old (.cells (madeCells #[.bool false] n) 4)).alloc_old (.cells (madeCells #[.int .i64 0] m) 3))
  have c1120 := F112.out.cell 0 _ rfl
  have g1120 := F112.out.frozen 0
  have c1121 := F112.out.cell 1 _ rfl
  have g1121 := F112.out.frozen 1
  have c1122 := F112.out.cell 2 _ rfl
  have g1122 := F112.out.frozen 2
  have c1123 := F112.out.cell 3 _ rfl
  have g1123 := F112.out.frozen 3
  have b1120 := made_one w2 (.bool false) n 4
  have B1120 := Lib.hid (boolBlk_rep ((b1120.alloc_old (.cells (madeCells #[.bool false] n) 4)).alloc_old (.cells (madeCells #[.int .i64 0] m) 3)))
  clear b1120
  have b1121 := made_one (w2.alloc (.cells (madeCells #[.bool false] n) 4)) (.bool false) n 4
  rw [show (w2.alloc (.cells (madeCells #[.bool false] n) 4)).heap.size = w2.heap.size + 1 from by simp] at b1121
  have B1121 := Lib.hid (boolBlk_rep (b1121.alloc_old (.cells (madeCells #[.int .i64 0] m) 3)))
  clear b1121
  have b1122 := made_one ((w2.alloc (.cells (madeCells #[.bool false] n) 4)).alloc (.cells (madeCells #[.bool false] n) 4)) (.int .i64 0) m 3
  rw [show ((w2.alloc (.cells (madeCells #[.bool false] n) 4)).alloc (.cells (madeCells #[.bool false] n) 4)).heap.size = w2.heap.size + 1 + 1 from by simp] at b1122
  have B1122 := Lib.hid (intBlk_rep b1122)
  clear b1122
  have W112 := Lib.hid (show Below w.heap.size w (((w2.alloc (.cells (madeCells #[.bool false] n) 4)).alloc (.cells (madeCells #[.bool false] n) 4)).alloc (.cells (madeCells #[.int .i64 0] m) 3)) from (((B2.out.alloc (Nat.le_trans (Nat.le_refl _) B2.out.size) (.cells (madeCells #[.bool false] n) 4)).alloc (Nat.le_trans (Nat.le_refl _) (B2.out.alloc (Nat.le_trans (Nat.le_refl _) B2.out.size) (.cells (madeCells #[.bool false] n) 4)).size) (.cells (madeCells #[.bool false] n) 4)).alloc (Nat.le_trans (Nat.le_refl _) ((B2.out.alloc (Nat.le_trans (Nat.le_refl _) B2.out.size) (.cells (madeCells #[.bool false] n) 4)).alloc (Nat.le_trans (Nat.le_refl _) (B2.out.alloc (Nat.le_trans (Nat.le_refl _) B2.out.size) (.cells (madeCells #[.bool false] n) 4)).size) (.cells (madeCells #[.bool false] n) 4)).size) (.cells (madeCells #[.int .i64 0] m) 3)))
  have F121 := Lib.hid (((E1.out.alloc_old (.cells (madeCells #[.bool false] n) 4)).alloc_old (.cells (madeCells #[.int .i64 0] m) 3)).alloc_old (.cells (madeCells #[.bool false] n) 4))
  have c1210 := F121.out.cell 0 _ rfl
  have g1210 := F121.out.frozen 0
  have c1211 := F121.out.cell 1 _ rfl
  have g1211 := F121.out.frozen 1
  have c1212 := F121.out.cell 2 _ rfl
  have g1212 := F121.out.frozen 2
  have c1213 := F121.out.cell 3 _ rfl
  have g1213 := F121.out.frozen 3
  have b1210 := made_one w2 (.bool false) n 4
  have B1210 := Lib.hid (boolBlk_rep ((b1210.alloc_old (.cells (madeCells #[.int .i64 0] m) 3)).alloc_old (.cells (madeCells #[.bool false] n) 4)))
  clear b1210
  have b1211 := made_one (w2.alloc (.cells (madeCells #[.bool false] n) 4)) (.int .i64 0) m 3
  rw [show (w2.alloc (.cells (madeCells #[.bool false] n) 4)).heap.size = w2.heap.size + 1 from by simp] at b1211
  have B1211 := Lib.hid (intBlk_rep (b1211.alloc_old (.cells (madeCells #[.bool false] n) 4)))
  clear b1211
  have b1212 := made_one ((w2.alloc (.cells (madeCells #[.bool false] n) 4)).alloc (.cells (madeCells #[.int .i64 0] m) 3)) (.bool false) n 4
  rw [show ((w2.alloc (.cells (madeCells #[.bool false] n) 4)).alloc (.cells (madeCells #[.int .i64 0] m) 3)).heap.size = w2.heap.size + 1 + 1 from by simp] at b1212
  have B1212 := Lib.hid (boolBlk_rep b1212)
  clear b1212
  have W121 := Lib.hid (show Below w.heap.size w (((w2.alloc (.cells (madeCells #[.bool false] n) 4)).alloc (.cells (madeCells #[.int .i64 0] m) 3)).alloc (.cells (madeCells #[.bool false] n) 4)) from (((B2.out.alloc (Nat.le_trans (Nat.le_refl _) B2.out.size) (.cells (madeCells #[.bool false] n) 4)).alloc (Nat.le_trans (Nat.le_refl _) (B2.out.alloc (Nat.le_trans (Nat.le_refl _) B2.out.size) (.cells (madeCells #[.bool false] n) 4)).size) (.cells (madeCells #[.int .i64 0] m) 3)).alloc (Nat.le_trans (Nat.le_refl _) ((B2.out.alloc (Nat.le_trans (Nat.le_refl _) B2.out.size) (.cells (madeCells #[.bool false] n) 4)).alloc (Nat.le_trans (Nat.le_refl _) (B2.out.alloc (Nat.le_trans (Nat.le_refl _) B2.out.size) (.cells (madeCells #[.bool false] n) 4)).size) (.cells (madeCells #[.int .i64 0] m) 3)).size) (.cells (madeCells #[.bool false] n) 4)))
  have F211 := Lib.hid (((E1.out.alloc_old (.cells (madeCells #[.int .i64 0] m) 3)).alloc_old (.cells (madeCells #[.bool false] n) 4)).alloc_old (.cells (madeCells #[.bool false] n) 4))
  have c2110 := F211.out.cell 0 _ rfl
  have g2110 := F211.out.frozen 0
  have c2111 := F211.out.cell 1 _ rfl
  have g2111 := F211.out.frozen 1
  have c2112 := F211.out.cell 2 _ rfl
  have g2112 := F211.out.frozen 2
  have c2113 := F211.out.cell 3 _ rfl
  have g2113 := F211.out.frozen 3
  have b2110 := made_one w2 (.int .i64 0) m 3
  have B2110 := Lib.hid (intBlk_rep ((b2110.alloc_old (.cells (madeCells #[.bool false] n) 4)).alloc_old (.cells (madeCells #[.bool false] n) 4)))
  clear b2110
  have b2111 := made_one (w2.alloc (.cells (madeCells #[.int .i64 0] m) 3)) (.bool false) n 4
  rw [show (w2.alloc (.cells (madeCells #[.int .i64 0] m) 3)).heap.size = w2.heap.size + 1 from by simp] at b2111
  have B2111 := Lib.hid (boolBlk_rep (b2111.alloc_old (.cells (madeCells #[.bool false] n) 4)))
  clear b2111
  have b2112 := made_one ((w2.alloc (.cells (madeCells #[.int .i64 0] m) 3)).alloc (.cells (madeCells #[.bool false] n) 4)) (.bool false) n 4
  rw [show ((w2.alloc (.cells (madeCells #[.int .i64 0] m) 3)).alloc (.cells (madeCells #[.bool false] n) 4)).heap.size = w2.heap.size + 1 + 1 from by simp] at b2112
  have B2112 := Lib.hid (boolBlk_rep b2112)
  clear b2112
  have W211 := Lib.hid (show Below w.heap.size w (((w2.alloc (.cells (madeCells #[.int .i64 0] m) 3)).alloc (.cells (madeCells #[.bool false] n) 4)).alloc (.cells (madeCells #[.bool false] n) 4)) from (((B2.out.alloc (Nat.le_trans (Nat.le_refl _) B2.out.size) (.cells (madeCells #[.int .i64 0] m) 3)).alloc (Nat.le_trans (Nat.le_refl _) (B2.out.alloc (Nat.le_trans (Nat.le_refl _) B2.out.size) (.cells (madeCells #[.int .i64 0] m) 3)).size) (.cells (madeCells #[.bool false] n) 4)).alloc (Nat.le_trans (Nat.le_refl _) ((B2.out.alloc (Nat.le_trans (Nat.le_refl _) B2.out.size) (.cells (madeCells #[.int .i64 0] m) 3)).alloc (Nat.le_trans (Nat.le_refl _) (B2.out.alloc (Nat.le_trans (Nat.le_refl _) B2.out.size) (.cells (madeCells #[.int .i64 0] m) 3)).size) (.cells (madeCells #[.bool false] n) 4)).size) (.cells (madeCells #[.bool false] n) 4)))
  clear y0 y1 y2 y3 y4 fS
  have HS2 := Lib.hid (show w.heap.size + 2 ≤ w2.heap.size from HSZ.out)
  go_region
  all_goals
    go_wp2
    first
      | (obtain ⟨⟨r0, r1, r2, r3⟩, C, B⟩ := fresh_fin (u := w2.heap.size) (l := (w2.heap.size + 1)) (k := (w2.heap.size + 1 + 1)) W112.out HS2.out B1120.out B1121.out B1122.out (by omega) (by omega) (by omega) (by omega) (by omega) (by omega) F112.out; (with_reducible refine bodyPost_ret (v := ctxV false w2.heap.size (w2.heap.size + 1) (w2.heap.size + 1 + 1) n m) ?_ rfl (newCtx_mk C.drew B.drew)); (simp [results, Tryz.results18, go_sem, ctxV, r0, r1, r2, r3]))
      | (obtain ⟨⟨r0, r1, r2, r3⟩, C, B⟩ := fresh_fin (u := (w2.heap.size + 1)) (l := w2.heap.size) (k := (w2.heap.size + 1 + 1)) W112.out HS2.out B1121.out B1120.out B1122.out (by omega) (by omega) (by omega) (by omega) (by omega) (by omega) F112.out; (with_reducible refine bodyPost_ret (v := ctxV false (w2.heap.size + 1) w2.heap.size (w2.heap.size + 1 + 1) n m) ?_ rfl (newCtx_mk C.drew B.drew)); (simp [results, Tryz.results18, go_sem, ctxV, r0, r1, r2, r3]))
      | (obtain ⟨⟨r0, r1, r2, r3⟩, C, B⟩ := fresh_fin (u := w2.heap.size) (l := (w2.heap.size + 1 + 1)) (k := (w2.heap.size + 1)) W121.out HS2.out B1210.out B1212.out B1211.out (by omega) (by omega) (by omega) (by omega) (by omega) (by omega) F121.out; (with_reducible refine bodyPost_ret (v := ctxV false w2.heap.size (w2.heap.size + 1 + 1) (w2.heap.size + 1) n m) ?_ rfl (newCtx_mk C.drew B.drew)); (simp [results, Tryz.results18, go_sem, ctxV, r0, r1, r2, r3]))
      | (obtain ⟨⟨r0, r1, r2, r3⟩, C, B⟩ := fresh_fin (u := (w2.heap.size + 1 + 1)) (l := w2.heap.size) (k := (w2.heap.size + 1)) W121.out HS2.out B1212.out B1210.out B1211.out (by omega) (by omega) (by omega) (by omega) (by omega) (by omega) F121.out; (with_reducible refine bodyPost_ret (v := ctxV false (w2.heap.size + 1 + 1) w2.heap.size (w2.heap.size + 1) n m) ?_ rfl (newCtx_mk C.drew B.drew)); (simp [results, Tryz.results18, go_sem, ctxV, r0, r1, r2, r3]))
      | (obtain ⟨⟨r0, r1, r2, r3⟩, C, B⟩ := fresh_fin (u := (w2.heap.size + 1)) (l := (w2.heap.size + 1 + 1)) (k := w2.heap.size) W211.out HS2.out B2111.out B2112.out B2110.out (by omega) (by omega) (by omega) (by omega) (by omega) (by omega) F211.out; (with_reducible refine bodyPost_ret (v := ctxV false (w2.heap.size + 1) (w2.heap.size + 1 + 1) w2.heap.size n m) ?_ rfl (newCtx_mk C.drew B.drew)); (simp [results, Tryz.results18, go_sem, ctxV, r0, r1, r2, r3]))
      | (obtain ⟨⟨r0, r1, r2, r3⟩, C, B⟩ := fresh_fin (u := (w2.heap.size + 1 + 1)) (l := (w2.heap.size + 1)) (k := w2.heap.size) W211.out HS2.out B2112.out B2111.out B2110.out (by omega) (by omega) (by omega) (by omega) (by omega) (by omega) F211.out; (with_reducible refine bodyPost_ret (v := ctxV false (w2.heap.size + 1 + 1) (w2.heap.size + 1) w2.heap.size n m) ?_ rfl (newCtx_mk C.drew B.drew)); (simp [results, Tryz.results18, go_sem, ctxV, r0, r1, r2, r3]))
end
end Go.Proofs.YtcfhggdiccilaaaGreat
