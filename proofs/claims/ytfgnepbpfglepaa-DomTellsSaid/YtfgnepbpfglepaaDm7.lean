/- Rows of structs that are appended to a row of one's own. -/
import Derived.Test.YtfgnepbpfglepaaDm0
import Derived.OwnWalk
import Derived.Laws.AppendOwnNone
namespace Go.Proofs.Ytfgnepbpfglepaa
open Go.RowKit
set_option linter.unusedVariables false
set_option linter.unusedSimpArgs false

/-- The cells of a slice. -/
theorem rdOf_vals {α : Type} {ok : Nat → Prop} {sz : Nat} {P : Nat → Nat → α → Prop} {a : Option Addr} {n c : Nat} {xs : List α} (w : World) (h : RdOf ok sz P a n c xs) (hsz : 0 < sz)
    (hP : ∀ b o x, P b o x → ∀ f, f < sz → ∃ u, w.cell? ⟨b, o + f, none⟩ = some u ∧ u.oneCell' = true) :
    ∃ vs : List Value, vs.length = n * sz ∧ (∀ u ∈ vs, u.oneCell' = true) ∧ (n = 0 ∨ ∃ b off, a = some ⟨b, off, none⟩ ∧ ok b ∧ (∀ j u, vs[j]? = some u → w.cell? ⟨b, off + j, none⟩ = some u) ∧ ∀ i x, xs[i]? = some x → P b (off + i * sz) x) := by
  rcases h.2.2.2 with h4 | ⟨b, off, rfl, hb, hi⟩
  · have h0 : n = 0 := by rw [h.1, h4]; rfl
    exact ⟨[], by rw [h0]; simp, by simp, .inl h0⟩
  · have hex : ∀ j, j < n * sz → ∃ u, w.cell? ⟨b, off + j, none⟩ = some u ∧ u.oneCell' = true := fun j hj => by
      have hd : j / sz < n := by rw [Nat.div_lt_iff_lt_mul hsz]; exact hj
      obtain ⟨x, hx⟩ : ∃ x, xs[j / sz]? = some x := ⟨_, List.getElem?_eq_getElem (by rw [← h.1]; exact hd)⟩
      obtain ⟨u, hu, hu2⟩ := hP b _ x (hi _ x hx) (j % sz) (Nat.mod_lt _ hsz)
      refine ⟨u, ?_, hu2⟩
      rw [← hu]
      congr 2
      have := Nat.div_add_mod j sz
      rw [Nat.mul_comm] at this
      omega
    have hat : ∀ j u, ((List.range (n * sz)).map fun j => (w.cell? ⟨b, off + j, none⟩).getD (.bool false))[j]? = some u → w.cell? ⟨b, off + j, none⟩ = some u ∧ u.oneCell' = true := fun j u hu => by
      rw [List.getElem?_map] at hu
      rcases Nat.lt_or_ge j (n * sz) with hj | hj
      · rw [List.getElem?_range hj] at hu
        obtain ⟨v, hv, hv2⟩ := hex j hj
        simp only [Option.map_some, hv, Option.getD_some, Option.some.injEq] at hu
        subst hu
        exact ⟨hv, hv2⟩
      · rw [List.getElem?_eq_none (l := List.range (n * sz)) (by rw [List.length_range]; exact hj)] at hu; simp at hu
    refine ⟨_, by simp, fun u hu => ?_, .inr ⟨b, off, rfl, hb, fun j u hu => (hat j u hu).1, hi⟩⟩
    obtain ⟨j, hj, hu2⟩ := List.mem_iff_getElem.1 hu
    exact (hat j u (by rw [List.getElem?_eq_getElem hj, hu2])).2

/-- The append of a slice of structs to a row of one's own. -/
theorem wpList_append_rows {P : Program} {w : World} {ops : Array Oper} {rest : List Oper} {o : Oper} {a : Act} {Q : Exit → Act → World → Prop} (hgd : o.guard = none) (s x : Operand) (t : TypeId)
    (ho : o.op = .call { callee := .builtin .append, args := #[s, x], argTypes := #[t, t] })
    (base : Nat) (e : TypeId) (i : TypeInfo) (z : Value) (sz bytes : Nat) (ht : P.underlying t = some (.slice e)) (hi : P.info? e = some i) (hz : i.zero = some z) (hzs : z.cells.size = sz) (hsz : 0 < sz)
    (hsize : i.size = sz) (hby : i.bytes = bytes)
    (v : Value) (n : Nat) (acc : List Value) (hs : a.eval s = v) (hown : w.ownsRow base e sz v n acc)
    (ad : Option Addr) (m c : Nat) (vs : List Value) (hm : vs.length = m * sz) (hx : a.eval x = .slice ad m c) (hone : ∀ u ∈ vs, u.oneCell' = true) (hr : m = 0 ∨ ∃ b off, ad = some ⟨b, off, none⟩ ∧ ∀ j u, vs[j]? = some u → w.cell? ⟨b, off + j, none⟩ = some u) (hnil : ad = none → c = 0)
    (h63 : n + m ≤ maxLen) (hbytes : (n + m) * bytes ≤ 140737488355328) (hbase : base ≤ w.heap.size)
    (h : ∀ v' w', w'.ownsRow base e sz v' (n + m) (acc ++ vs) → w.grownBy w' v.ownBlock → wpList P ops Q rest (a.put o.dst v') w') : wpList P ops Q (o :: rest) a w := by
  rcases ad with _ | ad
  · have hz0 : m = 0 := by
      rcases hr with h0 | ⟨b, off, hb, _⟩
      · exact h0
      · cases hb
    subst hz0
    have hv0 : vs = [] := List.length_eq_zero_iff.1 (by rw [hm]; simp)
    subst hv0
    rw [hnil rfl] at hx
    exact wpList_append_own_none hgd s x t ho base e i sz ht hi v n _ hs hown hx (h v w (by simpa using hown) (World.grownBy.refl _ _))
  · refine wpList_append_own w hgd s x t ho base e i z sz bytes ht hi hz hsize hby hzs hsz v n _ hs hown ad m c vs hx hm ?_ hone h63 hbytes hbase (fun v' w' h1 h2 _ => h v' w' h1 h2)
    rcases hr with h0 | ⟨b, off, hb, hat⟩
    · have : vs = [] := List.length_eq_zero_iff.1 (by rw [hm, h0]; simp)
      subst this; intro j u hu; simp at hu
    · cases hb; exact fun j u hu => by have := hat j u hu; rwa [show (⟨b, off, none⟩ : Addr).add j = ⟨b, off + j, none⟩ from by simp [Addr.add]]
theorem owns_emptyN {w : World} {g base : Nat} {e : TypeId} (sz : Nat) (h : w.heap[g]? = some (.cells #[] e (0, 0))) (hb : base ≤ g) : w.ownsRow base e sz (.slice (some ⟨g, 0, none⟩) 0 0) 0 [] :=
  ⟨by simp, .inr ⟨g, 0, #[], rfl, hb, h, Nat.le_refl _, by simp [maxLen], by simp, by simp⟩⟩

/-- What a row of one's own holds, where it has any. -/
theorem own_get {w : World} {base : Nat} {e : TypeId} {sz : Nat} {v : Value} {n : Nat} {vs : List Value} (h : w.ownsRow base e sz v n vs) (hn : 0 < n) :
    ∃ (g cap : Nat) (cs : List Value), v = .slice (some ⟨g, 0, none⟩) n cap ∧ base ≤ g ∧ Blk w g cs e ∧ n ≤ cap ∧ cap ≤ maxLen ∧ cs.length = cap * sz ∧ ∀ (j : Nat) (u : Value), vs[j]? = some u → cs[j]? = some u := by
  obtain ⟨hl, ⟨_, h0⟩ | ⟨g, cap, cur, hv, hb, hc, h1, h2, h3, h4⟩⟩ := h
  · omega
  · refine ⟨g, cap, cur.toList, hv, hb, by unfold Blk; simpa using hc, h1, h2, by simpa using h3, fun j u hu => ?_⟩
    have hj : j < n * sz := by rw [← hl]; exact (List.getElem?_eq_some_iff.1 hu).1
    rw [← h4, List.getElem?_take, if_pos hj] at hu
    exact hu
theorem own_none {w : World} {base : Nat} {e : TypeId} {sz : Nat} {v : Value} {vs : List Value} (h : w.ownsRow base e sz v 0 vs) : ∃ ad cap, v = .slice ad 0 cap ∧ cap ≤ maxLen ∧ (ad = none → cap = 0) := by
  obtain ⟨_, ⟨hv, _⟩ | ⟨g, cap, cur, hv, _, _, _, h2, _⟩⟩ := h
  · exact ⟨none, 0, hv, by unfold maxLen; omega, fun _ => rfl⟩
  · exact ⟨_, cap, hv, h2, fun h => by cases h⟩

theorem strAt_cells {w : World} {b o : Nat} {x : ByteArray} (h : StrAt w b o x) : ∀ f, f < 1 → ∃ u, w.cell? ⟨b, o + f, none⟩ = some u ∧ u.oneCell' = true := fun f hf => by
  obtain rfl : f = 0 := by omega
  exact ⟨_, h.1, rfl⟩
theorem attrAt_cells {w : World} {b o : Nat} {x : At3} (h : AttrAt w b o x) : ∀ f, f < 3 → ∃ u, w.cell? ⟨b, o + f, none⟩ = some u ∧ u.oneCell' = true := fun f hf => by
  obtain ⟨h0, h1, h2, _⟩ := h
  rcases (show f = 0 ∨ f = 1 ∨ f = 2 by omega) with rfl | rfl | rfl
  · exact ⟨_, h0, rfl⟩
  · exact ⟨_, h1, rfl⟩
  · exact ⟨_, h2, rfl⟩
theorem nodeAt_cells {ok : Nat → Prop} {w : World} {b o : Nat} {x : Nd} (h : NodeAt ok w b o x) : ∀ f, f < 7 → ∃ u, w.cell? ⟨b, o + f, none⟩ = some u ∧ u.oneCell' = true := fun f hf => by
  obtain ⟨h0, h1, h2, h3, ⟨_, _, _, h4, _⟩, ⟨_, _, _, h5, _⟩, h6, _⟩ := h
  rcases (show f = 0 ∨ f = 1 ∨ f = 2 ∨ f = 3 ∨ f = 4 ∨ f = 5 ∨ f = 6 by omega) with rfl | rfl | rfl | rfl | rfl | rfl | rfl
  · exact ⟨_, h0, rfl⟩
  · exact ⟨_, h1, rfl⟩
  · exact ⟨_, h2, rfl⟩
  · exact ⟨_, h3, rfl⟩
  · exact ⟨_, h4, rfl⟩
  · exact ⟨_, h5, rfl⟩
  · exact ⟨_, h6, rfl⟩
/-- A row of one's own that took a slice's parts reads as they do. -/
theorem own_strs {w w' : World} {base : Nat} {e : TypeId} {v : Value} {ok : Nat → Prop} {a : Option Addr} {n c : Nat} {xs : List ByteArray} {vs : List Value} (h : RdS ok w a n c xs) (hl : vs.length = n * 1)
    (hv : n = 0 ∨ ∃ b off, a = some ⟨b, off, none⟩ ∧ ok b ∧ (∀ j u, vs[j]? = some u → w.cell? ⟨b, off + j, none⟩ = some u) ∧ ∀ i x, xs[i]? = some x → StrAt w b (off + i * 1) x)
    (ho : w'.ownsRow base e 1 v n vs) : ∃ ad cap, v = .slice ad n cap ∧ RdS (fun b => base ≤ b ∧ b < w'.heap.size) w' ad n cap xs := by
  rcases Nat.eq_zero_or_pos n with h0 | hp
  · subst h0
    obtain ⟨ad, cap, hv2, hc, hn2⟩ := own_none ho
    have : xs = [] := List.length_eq_zero_iff.1 h.1.symm
    subst this
    exact ⟨ad, cap, hv2, RdOf.nil _ _ _ _ _ hc hn2⟩
  · obtain ⟨g, cap, cs, rfl, hb, hB, h1, h2, h3, h4⟩ := own_get ho hp
    refine ⟨_, cap, rfl, h.1, h1, ⟨h2, h.2.2.1.2.1, fun h => by cases h⟩, .inr ⟨g, 0, rfl, ⟨hb, hB.lt⟩, fun i x hx => ?_⟩⟩
    obtain ⟨b, off, _, _, hc, hP⟩ := hv.resolve_left (by omega)
    have hi : i < n := by rw [h.1]; exact (List.getElem?_eq_some_iff.1 hx).1
    obtain ⟨p0, p1⟩ := hP i x hx
    obtain ⟨u, hu⟩ : ∃ u, vs[i]? = some u := ⟨_, List.getElem?_eq_getElem (by omega)⟩
    have := hc i u hu
    rw [Nat.mul_one] at p0
    rw [this] at p0
    cases p0
    exact ⟨by rw [Nat.mul_one, Nat.zero_add]; exact hB.cell i _ (h4 i _ hu), p1⟩
theorem own_attrs {w w' : World} {base : Nat} {e : TypeId} {v : Value} {ok : Nat → Prop} {a : Option Addr} {n c : Nat} {xs : List At3} {vs : List Value} (h : RdA ok w a n c xs) (hl : vs.length = n * 3)
    (hv : n = 0 ∨ ∃ b off, a = some ⟨b, off, none⟩ ∧ ok b ∧ (∀ j u, vs[j]? = some u → w.cell? ⟨b, off + j, none⟩ = some u) ∧ ∀ i x, xs[i]? = some x → AttrAt w b (off + i * 3) x)
    (ho : w'.ownsRow base e 3 v n vs) : ∃ ad cap, v = .slice ad n cap ∧ RdA (fun b => base ≤ b ∧ b < w'.heap.size) w' ad n cap xs := by
  rcases Nat.eq_zero_or_pos n with h0 | hp
  · subst h0
    obtain ⟨ad, cap, hv2, hc, hn2⟩ := own_none ho
    have : xs = [] := List.length_eq_zero_iff.1 h.1.symm
    subst this
    exact ⟨ad, cap, hv2, RdOf.nil _ _ _ _ _ hc hn2⟩
  · obtain ⟨g, cap, cs, rfl, hb, hB, h1, h2, h3, h4⟩ := own_get ho hp
    refine ⟨_, cap, rfl, h.1, h1, ⟨h2, h.2.2.1.2.1, fun h => by cases h⟩, .inr ⟨g, 0, rfl, ⟨hb, hB.lt⟩, fun i x hx => ?_⟩⟩
    obtain ⟨b, off, _, _, hc, hP⟩ := hv.resolve_left (by omega)
    have hi : i < n := by rw [h.1]; exact (List.getElem?_eq_some_iff.1 hx).1
    obtain ⟨p0, p1, p2, p3⟩ := hP i x hx
    have hat : ∀ f u, f < 3 → w.cell? ⟨b, off + i * 3 + f, none⟩ = some u → w'.cell? ⟨g, 0 + i * 3 + f, none⟩ = some u := fun f u hf hu => by
      obtain ⟨u', hu'⟩ : ∃ u', vs[i * 3 + f]? = some u' := ⟨_, List.getElem?_eq_getElem (by omega)⟩
      have := hc _ u' hu'
      rw [← Nat.add_assoc, hu] at this
      cases this
      rw [Nat.zero_add]
      exact hB.cell _ _ (h4 _ _ hu')
    exact ⟨hat 0 _ (by omega) p0, hat 1 _ (by omega) p1, hat 2 _ (by omega) p2, p3⟩
/-- A node's cells in a block. -/
def NdC (ok : Nat → Prop) (w : World) (cs : List Value) (o : Nat) (x : Nd) : Prop :=
  cs[o]? = some (.int .i64 x.par) ∧ cs[o + 1]? = some (.int .i64 x.kind) ∧ cs[o + 2]? = some (.string x.space) ∧ cs[o + 3]? = some (.string x.name) ∧
  (∃ a n c, cs[o + 4]? = some (.slice a n c) ∧ RdA ok w a n c x.attrs) ∧ (∃ a n c, cs[o + 5]? = some (.slice a n c) ∧ RdS ok w a n c x.states) ∧
  cs[o + 6]? = some (.string x.text) ∧ x.space.size ≤ 140737488351232 ∧ x.name.size ≤ 140737488351232 ∧ x.text.size ≤ 140737488351232
theorem NdC.at {ok : Nat → Prop} {w : World} {cs : List Value} {o g : Nat} {x : Nd} {T : TypeId} (h : NdC ok w cs o x) (hB : Blk w g cs T) : NodeAt ok w g o x := by
  obtain ⟨h0, h1, h2, h3, ⟨a, n, c, h4, hA⟩, ⟨a', n', c', h5, hS⟩, h6, h7⟩ := h
  exact ⟨hB.cell _ _ h0, hB.cell _ _ h1, hB.cell _ _ h2, hB.cell _ _ h3, ⟨a, n, c, hB.cell _ _ h4, hA⟩, ⟨a', n', c', hB.cell _ _ h5, hS⟩, hB.cell _ _ h6, h7⟩
theorem NdC.move {ok ok' : Nat → Prop} {w w' : World} (ho : ∀ b, ok b → ok' b ∧ w'.heap[b]? = w.heap[b]?) {cs : List Value} {o : Nat} {x : Nd} (h : NdC ok w cs o x) : NdC ok' w' cs o x := by
  obtain ⟨h0, h1, h2, h3, ⟨a, n, c, h4, hA⟩, ⟨a', n', c', h5, hS⟩, h6⟩ := h
  exact ⟨h0, h1, h2, h3, ⟨a, n, c, h4, hA.move ho⟩, ⟨a', n', c', h5, hS.move ho⟩, h6⟩
theorem own_nodes {w w' : World} {base : Nat} {e : TypeId} {v : Value} {ok ok' : Nat → Prop} {a : Option Addr} {n c : Nat} {xs : List Nd} {vs : List Value} (h : RdN ok w a n c xs) (hl : vs.length = n * 7) (hp : 0 < n)
    (hv : n = 0 ∨ ∃ b off, a = some ⟨b, off, none⟩ ∧ ok b ∧ (∀ j u, vs[j]? = some u → w.cell? ⟨b, off + j, none⟩ = some u) ∧ ∀ i x, xs[i]? = some x → NodeAt ok w b (off + i * 7) x)
    (hmv : ∀ b, ok b → ok' b ∧ w'.heap[b]? = w.heap[b]?)
    (ho : w'.ownsRow base e 7 v n vs) : ∃ (g cap : Nat) (cs : List Value), v = .slice (some ⟨g, 0, none⟩) n cap ∧ base ≤ g ∧ Blk w' g cs e ∧ n ≤ cap ∧ cap ≤ maxLen ∧ cs.length = cap * 7 ∧ ∀ i x, xs[i]? = some x → NdC ok' w' cs (i * 7) x := by
  obtain ⟨g, cap, cs, hv', hb, hB, h1, h2, h3, h4⟩ := own_get ho hp
  refine ⟨g, cap, cs, hv', hb, hB, h1, h2, h3, fun i x hx => ?_⟩
  obtain ⟨b, off, _, _, hc, hP⟩ := hv.resolve_left (by omega)
  have hi : i < n := by rw [h.1]; exact (List.getElem?_eq_some_iff.1 hx).1
  obtain ⟨p0, p1, p2, p3, ⟨a1, n1, c1, p4, hA⟩, ⟨a2, n2, c2, p5, hS⟩, p6, p7⟩ := hP i x hx
  have hat : ∀ f u, f < 7 → w.cell? ⟨b, off + i * 7 + f, none⟩ = some u → cs[i * 7 + f]? = some u := fun f u hf hu => by
    obtain ⟨u', hu'⟩ : ∃ u', vs[i * 7 + f]? = some u' := ⟨_, List.getElem?_eq_getElem (by omega)⟩
    have := hc _ u' hu'
    rw [← Nat.add_assoc, hu] at this
    cases this
    exact h4 _ _ hu'
  exact ⟨hat 0 _ (by omega) p0, hat 1 _ (by omega) p1, hat 2 _ (by omega) p2, hat 3 _ (by omega) p3, ⟨a1, n1, c1, hat 4 _ (by omega) p4, hA.move hmv⟩, ⟨a2, n2, c2, hat 5 _ (by omega) p5, hS.move hmv⟩, hat 6 _ (by omega) p6, p7⟩
/-- A list of attributes, or states, of one node is written over by one that reads the same. -/
theorem NdC.set4 {ok : Nat → Prop} {w : World} {cs : List Value} {x : Nd} {i k : Nat} {a : Option Addr} {n c : Nat} (h : NdC ok w cs (i * 7) x) (hk : k * 7 + 4 < cs.length) (hA : i = k → RdA ok w a n c x.attrs) : NdC ok w (cs.set (k * 7 + 4) (.slice a n c)) (i * 7) x := by
  have hne : ∀ f, f < 7 → (i * 7 + f ≠ k * 7 + 4) → (cs.set (k * 7 + 4) (.slice a n c))[i * 7 + f]? = cs[i * 7 + f]? := fun f _ h => by rw [List.getElem?_set_ne (by omega)]
  obtain ⟨h0, h1, h2, h3, ⟨a1, n1, c1, h4, hA1⟩, ⟨a2, n2, c2, h5, hS⟩, h6, h7⟩ := h
  refine ⟨(hne 0 (by omega) (by omega)).trans h0, (hne 1 (by omega) (by omega)).trans h1, (hne 2 (by omega) (by omega)).trans h2, (hne 3 (by omega) (by omega)).trans h3, ?_, ⟨a2, n2, c2, (hne 5 (by omega) (by omega)).trans h5, hS⟩, (hne 6 (by omega) (by omega)).trans h6, h7⟩
  by_cases he : i = k
  · subst he
    exact ⟨a, n, c, by rw [List.getElem?_set_self hk], hA rfl⟩
  · exact ⟨a1, n1, c1, (hne 4 (by omega) (by omega)).trans h4, hA1⟩
theorem NdC.set5 {ok : Nat → Prop} {w : World} {cs : List Value} {x : Nd} {i k : Nat} {a : Option Addr} {n c : Nat} (h : NdC ok w cs (i * 7) x) (hk : k * 7 + 5 < cs.length) (hA : i = k → RdS ok w a n c x.states) : NdC ok w (cs.set (k * 7 + 5) (.slice a n c)) (i * 7) x := by
  have hne : ∀ f, f < 7 → (i * 7 + f ≠ k * 7 + 5) → (cs.set (k * 7 + 5) (.slice a n c))[i * 7 + f]? = cs[i * 7 + f]? := fun f _ h => by rw [List.getElem?_set_ne (by omega)]
  obtain ⟨h0, h1, h2, h3, ⟨a1, n1, c1, h4, hA1⟩, ⟨a2, n2, c2, h5, hS⟩, h6, h7⟩ := h
  refine ⟨(hne 0 (by omega) (by omega)).trans h0, (hne 1 (by omega) (by omega)).trans h1, (hne 2 (by omega) (by omega)).trans h2, (hne 3 (by omega) (by omega)).trans h3, ⟨a1, n1, c1, (hne 4 (by omega) (by omega)).trans h4, hA1⟩, ?_, (hne 6 (by omega) (by omega)).trans h6, h7⟩
  by_cases he : i = k
  · subst he
    exact ⟨a, n, c, by rw [List.getElem?_set_self hk], hA rfl⟩
  · exact ⟨a2, n2, c2, (hne 5 (by omega) (by omega)).trans h5, hS⟩
end Go.Proofs.Ytfgnepbpfglepaa
