/- Texts of mine in one: Gn1 Hd0 Or0 Or1 Hd1. -/
import Derived.Test.YtcfhggdiccilaaaGreatQ39
import Derived.Test.YtcfhggdiccilaaaGreatQ38
import Derived.Test.YtcfhggdiccilaaaGreatQ34
import Derived.Test.YtcfhggdiccilaaaGreatQ04
import Derived.Test.YtcfhggdiccilaaaGreatQ42
namespace Go.Proofs.YtcfhggdiccilaaaGreat
section
open Go.RowKit
set_option linter.unusedVariables false
set_option linter.unusedSimpArgs false
theorem run_append_none_c {P : Program} {w : World} (base : Nat) (t ty e : TypeId) (i : TypeInfo) (size : Nat) (c : Nat) (ht : P.underlying t = some (.slice e)) (hi : P.info? e = some i)
    (v : Value) (n : Nat) (xs : List Value) (hown : w.ownsRow base e size v n xs) :
    (Builtin.append_ #[t, t] ty #[v, .slice none 0 c]).run P w = .ok v w := by
  rcases hown.2 with ⟨rfl, rfl⟩ | ⟨g, cap, cur, rfl, _, _, hnc, _⟩
  · simp [Builtin.append_, run_underlying ht, sizeOf, typeInfo, hi, Builtin.lenOf, Builtin.firstCells]
  · simp [Builtin.append_, run_underlying ht, sizeOf, typeInfo, hi, Builtin.lenOf, Builtin.firstCells, hnc, storeCells]
def SrcIs (w : World) (sp : Option Addr) (m : Nat) (vs : List Value) : Prop := (m = 0 ∧ vs = []) ∨ ∃ ad, sp = some ad ∧ ∀ j u, vs[j]? = some u → w.cell? (ad.add j) = some u
theorem run_append_src {P : Program} (w : World) (base : Nat) (t ty e : TypeId) (i : TypeInfo) (z : Value) (sz bytes : Nat) (ht : P.underlying t = some (.slice e)) (hi : P.info? e = some i) (hz : i.zero = some z)
    (hsize : i.size = sz) (hby : i.bytes = bytes) (hzs : z.cells.size = sz) (hsz : 0 < sz) (v : Value) (n : Nat) (acc : List Value) (hown : w.ownsRow base e sz v n acc)
    (sp : Option Addr) (m c : Nat) (vs : List Value) (hm : vs.length = m * sz) (hone : ∀ u ∈ vs, u.oneCell' = true) (hs : SrcIs w sp m vs) (h63 : n + m ≤ maxLen) (hbytes : (n + m) * bytes ≤ 140737488355328) (hbase : base ≤ w.heap.size) :
    ∃ v' w', (Builtin.append_ #[t, t] ty #[v, .slice sp m c]).run P w = .ok v' w' ∧ w'.ownsRow base e sz v' (n + m) (acc ++ vs) ∧ w.grownBy w' v.ownBlock := by
  cases sp with
  | none =>
    rcases hs with ⟨rfl, rfl⟩ | ⟨ad, h, _⟩
    · exact ⟨v, w, run_append_none_c base t ty e i sz c ht hi v n acc hown, by simpa using hown, World.grownBy.refl _ _⟩
    · cases h
  | some ad =>
    have hn : ∀ j u, vs[j]? = some u → w.cell? (ad.add j) = some u := by
      rcases hs with ⟨rfl, rfl⟩ | ⟨ad', h, h2⟩
      · intro j u h; simp at h
      · obtain rfl := Option.some.inj h; exact h2
    obtain ⟨v', w', h1, h2, h3, _⟩ := run_append_own (P := P) (w := w) base t ty e i z sz bytes ht hi hz hsize hby hzs hsz v n acc hown ad m c vs hm hn hone h63 hbytes hbase
    exact ⟨v', w', h1, h2, h3⟩
theorem step_append_src {P : Program} {ops : Array Oper} {o : Oper} {a : Act} {w : World} {K : Act → World → Prop} {Q : Exit → Act → World → Prop} {E : Prop}
    (hg : o.guard = none) (s x : Operand) (t : TypeId) (ho : o.op = Op.call { callee := Callee.builtin Builtin.append, args := #[s, x], argTypes := #[t, t] })
    (base : Nat) (e : TypeId) (i : TypeInfo) (z : Value) (sz bytes : Nat) (ht : P.underlying t = some (.slice e)) (hi : P.info? e = some i) (hz : i.zero = some z) (hzs : z.cells.size = sz) (hsz : 0 < sz)
    (hsize : i.size = sz) (hby : i.bytes = bytes)
    (v : Value) (n : Nat) (acc : List Value) (hs : a.eval s = v) (sp : Option Addr) (m c : Nat) (vs : List Value) (hm : vs.length = m * sz) (hx : a.eval x = .slice sp m c) (hone : ∀ u ∈ vs, u.oneCell' = true)
    (h63 : n + m ≤ maxLen) (hbytes : (n + m) * bytes ≤ 140737488355328)
    (hown : w.ownsRow base e sz v n acc) (hr : SrcIs w sp m vs) (hbase : base ≤ w.heap.size)
    (h : ∀ v' w', w'.ownsRow base e sz v' (n + m) (acc ++ vs) → w.grownBy w' v.ownBlock → K (a.put o.dst v') w') :
    if Region.wanted o (yielded ops a.tmps) = true then Oper.wp P o a w K Q else E := by
  have hw : Region.wanted o (yielded ops a.tmps) = true := by simp [Region.wanted, hg]
  rw [if_pos hw]
  obtain ⟨v', w', hrun, r1, r2⟩ := run_append_src (P := P) w base t o.type e i z sz bytes ht hi hz hsize hby hzs hsz v n acc hown sp m c vs hm hone hr h63 hbytes hbase
  unfold Oper.wp
  simp [execOp, ho, resolve, invoke, builtin, hs, hx, hrun, Result.andThen]
  exact h v' w' r1 r2
theorem wpList_append_src {P : Program} {w : World} {ops : Array Oper} {rest : List Oper} {o : Oper} {a : Act} {Q : Exit → Act → World → Prop} (hgd : o.guard = none) (s x : Operand) (t : TypeId)
    (ho : o.op = .call { callee := .builtin .append, args := #[s, x], argTypes := #[t, t] })
    (base : Nat) (e : TypeId) (i : TypeInfo) (z : Value) (sz bytes : Nat) (ht : P.underlying t = some (.slice e)) (hi : P.info? e = some i) (hz : i.zero = some z) (hzs : z.cells.size = sz) (hsz : 0 < sz)
    (hsize : i.size = sz) (hby : i.bytes = bytes)
    (v : Value) (n : Nat) (acc : List Value) (hs : a.eval s = v) (sp : Option Addr) (m c : Nat) (vs : List Value) (hm : vs.length = m * sz) (hx : a.eval x = .slice sp m c) (hone : ∀ u ∈ vs, u.oneCell' = true)
    (h63 : n + m ≤ maxLen) (hbytes : (n + m) * bytes ≤ 140737488355328)
    (hown : w.ownsRow base e sz v n acc) (hr : SrcIs w sp m vs) (hbase : base ≤ w.heap.size)
    (h : ∀ v' w', w'.ownsRow base e sz v' (n + m) (acc ++ vs) → w.grownBy w' v.ownBlock → wpList P ops Q rest (a.put o.dst v') w') : wpList P ops Q (o :: rest) a w := by
  obtain ⟨v', w', hrun, r1, r2⟩ := run_append_src (P := P) w base t o.type e i z sz bytes ht hi hz hsize hby hzs hsz v n acc hown sp m c vs hm hone hr h63 hbytes hbase
  refine wpList_plain hgd fun K hK => ?_
  unfold Oper.wp
  simp [execOp, ho, resolve, invoke, builtin, hs, hx, hrun, Result.andThen]
  exact hK _ _ (h v' w' r1 r2)
theorem bools_srcIs {ok : Nat → Prop} {w : World} {a : Option Addr} {n c : Nat} {bs : List Bool} (h : BoolsAt ok w a n c bs) : SrcIs w a n (bs.map Value.bool) := by
  obtain ⟨h1, _, _, h4⟩ := h
  rcases h4 with rfl | ⟨b, off, rfl, hb, hc⟩
  · exact .inl ⟨h1, rfl⟩
  · refine .inr ⟨_, rfl, fun j v hv => ?_⟩
    rw [List.getElem?_map] at hv
    obtain ⟨x, hx, rfl⟩ := Option.map_eq_some_iff.1 hv
    have := hc j x hx
    rw [Nat.mul_one] at this
    rw [show (⟨b, off, none⟩ : Addr).add j = ⟨b, off + j, none⟩ from by simp [Addr.add]]
    exact this
theorem txts_srcIs {ok : Nat → Prop} {w : World} {a : Option Addr} {n c : Nat} {ss : List ByteArray} (h : RsOf ok 1 (TxtAt w) a n c ss) : SrcIs w a n (ss.map Value.string) := by
  obtain ⟨h1, _, _, h4⟩ := h
  rcases h4 with rfl | ⟨b, off, rfl, hb, hc⟩
  · exact .inl ⟨h1, rfl⟩
  · refine .inr ⟨_, rfl, fun j v hv => ?_⟩
    rw [List.getElem?_map] at hv
    obtain ⟨x, hx, rfl⟩ := Option.map_eq_some_iff.1 hv
    have := hc j x hx
    rw [Nat.mul_one] at this
    rw [show (⟨b, off, none⟩ : Addr).add j = ⟨b, off + j, none⟩ from by simp [Addr.add]]
    exact this
theorem owns_get {w : World} {base n : Nat} {T : TypeId} {v : Value} {xs : List Value} (h : w.ownsRow base T 1 v n xs) : xs.length = n ∧ ∃ a c, v = .slice a n c ∧ ∀ j u, xs[j]? = some u → ∃ g, a = some ⟨g, 0, none⟩ ∧ base ≤ g ∧ g < w.heap.size ∧ w.cell? ⟨g, j, none⟩ = some u ∧ w.frozen? ⟨g, j, none⟩ = false := by
  obtain ⟨h1, ⟨rfl, rfl⟩ | ⟨g, cap, cur, rfl, hb, hc, hnc, hcm, hcs, htk⟩⟩ := h
  · exact ⟨by simpa using h1, none, 0, rfl, fun j u hu => by
      have h0 : xs = [] := List.length_eq_zero_iff.1 (by simpa using h1)
      rw [h0] at hu; simp at hu⟩
  · refine ⟨by simpa using h1, some ⟨g, 0, none⟩, cap, rfl, fun j u hu => ⟨g, rfl, hb, (Array.getElem?_eq_some_iff.1 hc).1, ?_, ?_⟩⟩
    · have hB : Blk w g cur.toList T := by unfold Blk; simpa using hc
      rw [← htk, List.getElem?_take] at hu
      split at hu
      · exact hB.cell _ _ hu
      · cases hu
    · have hB : Blk w g cur.toList T := by unfold Blk; simpa using hc
      exact hB.frozen j
end

section
open Go.RowKit
set_option linter.unusedVariables false
def ctxL (u l k n m : Nat) : List Value := [.bool false, .slice (some ⟨u, 0, none⟩) n n, .slice (some ⟨l, 0, none⟩) n n, .slice (some ⟨k, 0, none⟩) m m]
theorem store4 {w w0 : World} {g B : Nat} {x0 x1 x2 x3 v0 v1 v2 v3 : Value} {T : TypeId} (h : Blk w g [x0, x1, x2, x3] T) (hB : Below B w0 w) (hg : B ≤ g) :
    Blk ((((w.setCell ⟨g, 0, none⟩ v0).setCell ⟨g, 1, none⟩ v1).setCell ⟨g, 2, none⟩ v2).setCell ⟨g, 3, none⟩ v3) g [v0, v1, v2, v3] T ∧
    w.grownBy ((((w.setCell ⟨g, 0, none⟩ v0).setCell ⟨g, 1, none⟩ v1).setCell ⟨g, 2, none⟩ v2).setCell ⟨g, 3, none⟩ v3) (some g) ∧
    Below B w0 ((((w.setCell ⟨g, 0, none⟩ v0).setCell ⟨g, 1, none⟩ v1).setCell ⟨g, 2, none⟩ v2).setCell ⟨g, 3, none⟩ v3) :=
  ⟨(((h.setCell 0 v0).setCell 1 v1).setCell 2 v2).setCell 3 v3,
    grown_write (grown_write (grown_write (grown_write (World.grownBy.refl w (some g)) 0 v0) 1 v1) 2 v2) 3 v3,
    (((hB.setCell (p := ⟨g, 0, none⟩) hg v0).setCell (p := ⟨g, 1, none⟩) hg v1).setCell (p := ⟨g, 2, none⟩) hg v2).setCell (p := ⟨g, 3, none⟩) hg v3⟩
section
variable {w w' : World} {base base' g u l k : Nat} {up left : List Bool} {cnt : List Int}
theorem CtxAt.onto (h : CtxAt w base u l k up left cnt) (hb : base' ≤ base) : CtxAt w base' u l k up left cnt :=
  ⟨Nat.le_trans hb h.nu, Nat.le_trans hb h.nl, Nat.le_trans hb h.nk, h.ul, h.uk, h.lk, h.up, h.left, h.cnt⟩
theorem CtxAt.later (h : CtxAt w base u l k up left cnt) (hb : Below w.heap.size w w') : CtxAt w' base u l k up left cnt :=
  h.stay (fun b hx => hb.block b (by rcases hx with rfl | rfl | rfl; exact h.up.lt; exact h.left.lt; exact h.cnt.lt))
theorem CtxAt.kept (h : CtxAt w base u l k up left cnt) (hg : w.grownBy w' (some g)) (hne : g ≠ u ∧ g ≠ l ∧ g ≠ k) : CtxAt w' base u l k up left cnt :=
  h.stay (fun b hx => hg.block b (by rcases hx with rfl | rfl | rfl; exact h.up.lt; exact h.left.lt; exact h.cnt.lt) (fun e => by
    have e := Option.some.inj e
    rcases hx with rfl | rfl | rfl
    · exact hne.1 e.symm
    · exact hne.2.1 e.symm
    · exact hne.2.2 e.symm))
theorem CtxAt.older (h : CtxAt w base u l k up left cnt) (hg : g < base) : g ≠ u ∧ g ≠ l ∧ g ≠ k := by
  have h1 := h.nu; have h2 := h.nl; have h3 := h.nk
  exact ⟨by omega, by omega, by omega⟩
theorem CtxAt.newer (h : CtxAt w base u l k up left cnt) : w.heap.size ≠ u ∧ w.heap.size ≠ l ∧ w.heap.size ≠ k :=
  ⟨Nat.ne_of_gt h.up.lt, Nat.ne_of_gt h.left.lt, Nat.ne_of_gt h.cnt.lt⟩
end
end

section
open Go.RowKit
set_option linter.unusedVariables false
set_option linter.unusedSimpArgs false
def OwnB (w : World) (base : Nat) (a : Option Addr) (n c : Nat) (l : List Bool) : Prop :=
  l.length = n ∧ n ≤ c ∧ c ≤ maxLen ∧ (n = 0 ∨ ∃ g, a = some ⟨g, 0, none⟩ ∧ base ≤ g ∧ g < w.heap.size ∧ ∀ (j : Nat) (x : Bool), l[j]? = some x → w.cell? ⟨g, j, none⟩ = some (.bool x) ∧ w.frozen? ⟨g, j, none⟩ = false)
theorem OwnB.of {w : World} {base n : Nat} {T : TypeId} {v : Value} {l : List Bool} (h : w.ownsRow base T 1 v n (l.map Value.bool)) : ∃ a c, v = .slice a n c ∧ OwnB w base a n c l := by
  obtain ⟨h1, ⟨rfl, rfl⟩ | ⟨g, cap, cur, rfl, hb, hc, hnc, hcm, hcs, htk⟩⟩ := h
  · exact ⟨none, 0, rfl, by simpa using h1, Nat.le_refl _, by unfold maxLen; omega, .inl rfl⟩
  · refine ⟨some ⟨g, 0, none⟩, cap, rfl, by simpa using h1, hnc, hcm, .inr ⟨g, rfl, hb, (Array.getElem?_eq_some_iff.1 hc).1, fun j x hx => ?_⟩⟩
    have hB : Blk w g cur.toList T := by unfold Blk; simpa using hc
    have hu : (l.map Value.bool)[j]? = some (.bool x) := by rw [List.getElem?_map, hx]; rfl
    rw [← htk, List.getElem?_take] at hu
    split at hu
    · exact ⟨hB.cell _ _ hu, hB.frozen j⟩
    · cases hu
theorem OwnB.set {w : World} {base g n c : Nat} {l : List Bool} (h : OwnB w base (some ⟨g, 0, none⟩) n c l) (hn : 0 < n) (i : Nat) (hi : i < n) (y : Bool) : OwnB (w.setCell ⟨g, i, none⟩ (.bool y)) base (some ⟨g, 0, none⟩) n c (l.set i y) := by
  obtain ⟨h1, h2, h3, h4 | ⟨g', hg, hb, hlt, hc⟩⟩ := h
  · omega
  · obtain rfl : g = g' := by have := congrArg Addr.block (Option.some.inj hg); exact this
    refine ⟨by rw [List.length_set]; exact h1, h2, h3, .inr ⟨g, rfl, hb, by simpa using hlt, fun j x hx => ?_⟩⟩
    rw [List.getElem?_set] at hx
    by_cases hij : i = j
    · subst hij
      rw [if_pos rfl, if_pos (by omega)] at hx
      obtain rfl := Option.some.inj hx
      obtain ⟨z, hz⟩ : ∃ z, l[i]? = some z := ⟨_, List.getElem?_eq_getElem (by omega)⟩
      exact ⟨World.cell?_setCell_same _ _ _ (hc i z hz).1, by rw [World.frozen?_setCell]; exact (hc i z hz).2⟩
    · rw [if_neg hij] at hx
      exact ⟨by rw [World.cell?_setCell_other _ _ _ _ (by intro e; exact hij (congrArg Addr.off e))]; exact (hc j x hx).1, by rw [World.frozen?_setCell]; exact (hc j x hx).2⟩
theorem OwnB.reads {w : World} {base n c : Nat} {a : Option Addr} {l : List Bool} (h : OwnB w base a n c l) (hn : n ≤ 140737488351232) : BoolsAt (fun b => base ≤ b ∧ b < w.heap.size) w a n c l := by
  obtain ⟨h1, h2, h3, h4 | ⟨g', rfl, hb, hlt, hc⟩⟩ := h
  · exact ⟨h1.symm, h2, ⟨h3, hn⟩, .inl (List.length_eq_zero_iff.1 (by omega))⟩
  · exact ⟨h1.symm, h2, ⟨h3, hn⟩, .inr ⟨g', 0, rfl, ⟨hb, hlt⟩, fun i x hx => by rw [Nat.mul_one, Nat.zero_add]; exact (hc i x hx).1⟩⟩
def orT (a more : List Bool) (k : Nat) : List Bool := (orB a more).take k ++ a.drop k
theorem orT_len (a more : List Bool) (k : Nat) : (orT a more k).length = a.length := by unfold orT; rw [List.length_append, List.length_take, List.length_drop, orB_len]; omega
theorem orT_get (a more : List Bool) (k j : Nat) (hj : j < a.length) : (orT a more k)[j]? = some (if j < k then (atB a j || atB more j) else atB a j) := by
  unfold orT
  by_cases h : j < k
  · rw [if_pos h, List.getElem?_append_left (by rw [List.length_take, orB_len]; omega), List.getElem?_take, if_pos h, ← atB_or a more j hj]
    unfold atB
    rw [List.getElem?_eq_getElem (by rw [orB_len]; exact hj)]
    rfl
  · rw [if_neg h, List.getElem?_append_right (by rw [List.length_take, orB_len]; omega), List.getElem?_drop, List.length_take, orB_len]
    unfold atB
    rw [show k + (j - min k a.length) = j from by omega, List.getElem?_eq_getElem hj]
    rfl
theorem orT_succ {a more : List Bool} {k : Nat} (hk : k < a.length) : orT a more (k + 1) = (orT a more k).set k (atB a k || atB more k) := by
  apply List.ext_getElem?
  intro j
  rw [List.getElem?_set, orT_len]
  by_cases hj : j < a.length
  · rw [orT_get _ _ _ _ hj]
    by_cases hkj : k = j
    · subst hkj
      rw [if_pos rfl, if_pos hk, if_pos (Nat.lt_succ_self k)]
    · rw [if_neg hkj, orT_get _ _ _ _ hj]
      by_cases h : j < k
      · rw [if_pos h, if_pos (by omega)]
      · rw [if_neg h, if_neg (by omega)]
  · rw [List.getElem?_eq_none (by rw [orT_len]; omega)]
    by_cases hkj : k = j
    · omega
    · rw [if_neg hkj, List.getElem?_eq_none (by rw [orT_len]; omega)]
theorem orT_zero (a more : List Bool) : orT a more 0 = a := by unfold orT; rw [List.take_zero, List.drop_zero]; rfl
theorem orT_all (a more : List Bool) : orT a more a.length = orB a more := by unfold orT; rw [List.take_of_length_le (by rw [orB_len]; exact Nat.le_refl _), List.drop_length, List.append_nil]
def OrP (n : Nat) (l : List Bool) (w : World) (e : Ending) (w' : World) : Prop := ∃ a c, e = .returned (.slice a n c) ∧ BoolsAt (fun b => w.heap.size ≤ b ∧ b < w'.heap.size) w' a n c l ∧ Below w.heap.size w w'
set_option maxRecDepth 100000 in
set_option maxHeartbeats 4000000 in
theorem or_any {w : World} {ua : Option Addr} {un uc : Nat} {up : List Bool} {ma : Option Addr} {mn mc : Nat} {more : List Bool} (hu : BoolsAt (· < w.heap.size) w ua un uc up) (hm : BoolsAt (· < w.heap.size) w ma mn mc more) (hs : un ≤ 100000) :
    Calls Tryz.prog 7 #[.slice ua un uc, .slice ma mn mc] w (OrP un (orB up more) w) := by
  obtain ⟨iB, hiB, hzB⟩ := Option.map_eq_some_iff.1 TryzinfoBl
  simp only [Prod.mk.injEq] at hzB
  have HIB := Lib.hid (And.intro hiB hzB)
  clear hiB hzB
  have hbE := (Below.refl w.heap.size w).alloc (Nat.le_refl _) (.cells #[] 4)
  have HBE := Lib.hid hbE
  have HV0 := Lib.hid (show (w.alloc (.cells #[] 4)).ownsRow w.heap.size 4 1 (.slice (some ⟨w.heap.size, 0, none⟩) 0 0) 0 [] from owns_emptyE 1 (show Blk (w.alloc (.cells #[] 4)) w.heap.size [] 4 from Blk.alloc [] _) (Nat.le_refl _))
  have HSR := Lib.hid (bools_srcIs (hu.move (w' := w.alloc (.cells #[] 4)) (ok' := fun _ => True) (fun b hb => ⟨trivial, hbE.block b hb⟩)))
  have HUL := Lib.hid (show un = up.length from hu.1)
  have HML := Lib.hid (show mn = more.length from hm.1)
  have HM := Lib.hid hm
  have hmnm : mn ≤ 140737488351232 := hm.2.2.1.2
  clear hu hm hbE
  go_enter Tryz.func7, Tryz.ntmps7
  go_wp2_with (at_builtin; (refine wpList_append_src rfl _ _ 26 rfl w.heap.size 4 iB _ 1 1 Tryz.underlying26 HIB.out.1 HIB.out.2.1 rfl (by decide) HIB.out.2.2.1 HIB.out.2.2.2 (.slice (some ⟨w.heap.size, 0, none⟩) 0 0) 0 [] rfl ua un uc (up.map Value.bool) (by rw [List.length_map]; have := HUL.out; omega) rfl (by intro u hu; obtain ⟨x, _, rfl⟩ := List.mem_map.1 hu; rfl) (by unfold maxLen; omega) (by omega) HV0.out HSR.out HBE.out.size ?_); intro v5 w5 ho5 hg5; obtain ⟨a5, c5, hv5, ho5'⟩ := OwnB.of (w := w5) (base := w.heap.size) (n := un) (T := 4) (v := v5) (l := up) (by simpa using ho5); subst hv5; have O5 := Lib.hid (show OwnB w5 w.heap.size a5 un c5 (orT up more 0) from by rw [orT_zero]; exact ho5'); have B5 := Lib.hid (HBE.out.grown hg5 HBE.out.size (fun g hg => by have h1 : w.heap.size = g := Option.some.inj hg; omega)); clear ho5 hg5 ho5')
  go_loopw [12] (fun iv wr => ∃ i : Nat, i ≤ un ∧ iv = .int .i64 i ∧ Hid (OwnB wr w.heap.size a5 un c5 (orT up more i)) ∧ Hid (Below w.heap.size w wr)) (fun iv _ => un - (intOf iv).toNat)
  case atStart => exact ⟨0, Nat.zero_le _, rfl, O5, B5⟩
  case round =>
    obtain ⟨i, hi, rfl, HO, HB⟩ := hrel
    by_cases hlt : i < un
    · have hul : i < up.length := by rw [← HUL.out]; exact hlt
      have hOw := HO.out
      obtain ⟨_, _, _, h4 | ⟨g, rfl, hgb, hgl, hgc⟩⟩ := hOw
      · omega
      obtain ⟨c0, f0⟩ := hgc i (atB up i) (by rw [orT_get _ _ _ _ hul, if_neg (Nat.lt_irrefl i)])
      have HST := Lib.hid (orT_succ (a := up) (more := more) hul)
      have HW := Lib.hid (fun (y : Bool) => HO.out.set (by omega) i hlt y)
      have HBW := Lib.hid (fun (y : Bool) => HB.out.setCell (p := ⟨g, i, none⟩) hgb (.bool y))
      have hiI : (0 : Int) ≤ (i : Int) := by omega
      have hiI2 : (i : Int) < (un : Int) := by omega
      clear hgc
      cases hx : atB up i with
      | true =>
        rw [hx, Bool.true_or] at HST
        rw [hx] at c0
        clear hx
        go_wp2
        go_roundw
        case rel => exact ⟨i + 1, by omega, by go_num, Lib.hid (by rw [HST.out]; exact HW.out _), Lib.hid (HBW.out _)⟩
        case measure => simp [intOf]; omega
      | false =>
        rw [hx, Bool.false_or] at HST
        rw [hx] at c0
        clear hx
        by_cases hmi : i < mn
        · obtain ⟨y, hy⟩ : ∃ y, more[i]? = some y := ⟨_, List.getElem?_eq_getElem (by rw [← HML.out]; exact hmi)⟩
          obtain ⟨bm, offm, rfl, hbm, hcm⟩ := HM.out.at i y hy
          rw [Nat.mul_one] at hcm
          have u0 : wr.cell? ⟨bm, offm + i, none⟩ = some (.bool y) := (HB.out.cell (p := ⟨bm, offm + i, none⟩) hbm).trans hcm
          have hmI : (i : Int) < (mn : Int) := by omega
          have qm : decide ((i : Int) < (mn : Int)) = true := decide_eq_true hmI
          rw [show atB more i = y from by unfold atB; rw [hy]; rfl] at HST
          clear hy hcm hbm
          go_wp2
          go_roundw
          case rel => exact ⟨i + 1, by omega, by go_num, Lib.hid (by rw [HST.out]; exact HW.out _), Lib.hid (HBW.out _)⟩
          case measure => simp [intOf]; omega
        · have qm : decide ((i : Int) < (mn : Int)) = false := decide_eq_false (by omega)
          rw [show atB more i = false from by unfold atB; rw [List.getElem?_eq_none (by rw [← HML.out]; omega)]; rfl] at HST
          go_wp2
          go_roundw
          case rel => exact ⟨i + 1, by omega, by go_num, Lib.hid (by rw [HST.out]; exact HW.out _), Lib.hid (HBW.out _)⟩
          case measure => simp [intOf]; omega
    · obtain rfl : i = un := by omega
      have hiI2 : ¬ (i : Int) < (i : Int) := by omega
      have HR := Lib.hid (show BoolsAt (fun b => w.heap.size ≤ b ∧ b < wr.heap.size) wr a5 i c5 (orB up more) from by rw [← orT_all, ← HUL.out]; exact HO.out.reads (by omega))
      go_wp2
      go_ret
      exact ⟨a5, c5, rfl, HR.out, HB.out⟩
end

section
open Go.RowKit
set_option linter.unusedVariables false
set_option linter.unusedSimpArgs false
set_option maxRecDepth 100000 in
set_option maxHeartbeats 2000000 in
theorem under_yes {w : World} {a : Option Addr} {n c : Nat} {xs : List Bool} {b : Option Addr} {n' c' : Nat} {bs : List Bool} (ha : BoolsAt (· < w.heap.size) w a n c xs) (hb : BoolsAt (· < w.heap.size) w b n' c' bs) (hu : underF xs bs) :
    Calls Tryz.prog 10 #[.slice a n c, .slice b n' c'] w (Told (.bool true) w) := by
  have h1 : n = xs.length := ha.1
  have h2 : n' = bs.length := hb.1
  obtain rfl : n = n' := by rw [h1, h2]; exact hu.1
  have HA := Lib.hid ha
  have HB := Lib.hid hb
  have HAL := Lib.hid h1
  have HBL := Lib.hid h2
  have HU := Lib.hid hu.2
  have hnm : n ≤ 140737488351232 := ha.2.2.1.2
  have qn : ((n : Int) != (n : Int)) = false := by simp
  clear ha hb h1 h2 hu
  go_enter Tryz.func10, Tryz.ntmps10
  go_wp2
  go_loopw [13] (fun iv wr => ∃ i : Nat, i ≤ n ∧ iv = .int .i64 i ∧ wr = w) (fun iv _ => n - (intOf iv).toNat)
  case atStart => exact ⟨0, Nat.zero_le _, rfl, rfl⟩
  case round =>
    obtain ⟨i, hi, rfl, rfl⟩ := hrel
    by_cases hlt : i < n
    · obtain ⟨x, hx⟩ : ∃ x, xs[i]? = some x := ⟨_, List.getElem?_eq_getElem (by rw [← HAL.out]; exact hlt)⟩
      obtain ⟨y, hy⟩ : ∃ y, bs[i]? = some y := ⟨_, List.getElem?_eq_getElem (by rw [← HBL.out]; exact hlt)⟩
      obtain ⟨p, o, rfl, hp, hpc⟩ := HA.out.at i x hx
      obtain ⟨q, o', rfl, hq, hqc⟩ := HB.out.at i y hy
      rw [Nat.mul_one] at hpc hqc
      have hiI : (0 : Int) ≤ (i : Int) := by omega
      have hiI2 : (i : Int) < (n : Int) := by omega
      have hxy := HU.out i
      rw [show atB xs i = x from by unfold atB; rw [hx]; rfl, show atB bs i = y from by unfold atB; rw [hy]; rfl] at hxy
      clear hx hy hp hq
      cases x with
      | false =>
        clear hxy
        go_wp2
        go_roundw
        case rel => exact ⟨i + 1, by omega, by go_num, by first | rfl | trivial⟩
        case measure => simp [intOf]; omega
      | true =>
        obtain rfl := hxy rfl
        go_wp2
        go_roundw
        case rel => exact ⟨i + 1, by omega, by go_num, by first | rfl | trivial⟩
        case measure => simp [intOf]; omega
    · obtain rfl : i = n := by omega
      have hiI2 : ¬ (i : Int) < (i : Int) := by omega
      go_wp2
      go_ret
      exact ⟨rfl, Below.refl _ _⟩
theorem boolBlk_at {w : World} {u : Nat} {l : List Bool} (h : BoolBlk w u l) (hn : l.length ≤ 1000000) : BoolsAt (· < w.heap.size) w (some ⟨u, 0, none⟩) l.length l.length l :=
  ⟨rfl, Nat.le_refl _, ⟨by unfold maxLen; omega, by omega⟩, .inr ⟨u, 0, rfl, h.lt, fun i x hx => by rw [Nat.mul_one, Nat.zero_add]; exact Blk.cell h i _ (by rw [List.getElem?_map, hx]; rfl)⟩⟩
theorem intBlk_reads {w : World} {u : Nat} {l : List Int} (h : IntBlk w u l) (hn : l.length ≤ 1000000) : Reads w .i64 (some ⟨u, 0, none⟩) l.length l :=
  ⟨Nat.le_refl _, by unfold maxLen; omega, .inr ⟨u, 0, rfl, h.lt, fun j hj => by rw [Nat.zero_add, Blk.cell h j (.int .i64 (l[j]?.getD 0)) (by rw [List.getElem?_map, List.getElem?_eq_getElem hj]; rfl)]⟩⟩
end

section
open Go.RowKit
set_option linter.unusedVariables false
section
variable {w : World} {base u l k n m : Nat} {up left : List Bool} {cnt : List Int}
theorem ctx_ups (h : CtxAt w base u l k up left cnt) (hn : up.length = n) (hs : n ≤ 1000000) : BoolsAt (· < w.heap.size) w (some ⟨u, 0, none⟩) n n up := by
  subst hn; exact boolBlk_at h.up hs
theorem ctx_lefts (h : CtxAt w base u l k up left cnt) (hn : left.length = n) (hs : n ≤ 1000000) : BoolsAt (· < w.heap.size) w (some ⟨l, 0, none⟩) n n left := by
  subst hn; exact boolBlk_at h.left hs
theorem ctx_cnts (h : CtxAt w base u l k up left cnt) (hn : cnt.length = m) (hs : m ≤ 1000000) : Reads w .i64 (some ⟨k, 0, none⟩) m cnt := by
  subst hn; exact intBlk_reads h.cnt hs
end
theorem under_refl (a : List Bool) : underF a a := ⟨rfl, fun _ h => h⟩
theorem same_ints {w : World} {a a' : Option Addr} {c c' m : Nat} {xs : List Int} (hx : Reads w .i64 a c xs) (hy : Reads w .i64 a' c' xs) (hm : xs.length = m) :
    Calls Tryz.prog 11 #[.slice a m c, .slice a' m c'] w (Told (.bool true) w) := by
  subst hm
  have h := same_any a a' c c' xs xs w hx hy
  rw [decide_eq_true rfl] at h
  exact h
end
end Go.Proofs.YtcfhggdiccilaaaGreat
