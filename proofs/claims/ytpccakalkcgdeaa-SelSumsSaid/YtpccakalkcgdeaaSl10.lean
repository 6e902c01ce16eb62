/- SelSums: sizes, depths and specificities of lists one behind the other (mathematics), and the append of selectors. -/
import Derived.Test.YtpccakalkcgdeaaSl6
import Derived.Test.YtpccakalkcgdeaaSl9
import Derived.OwnWalk
import Derived.Laws.AppendOwnNone
namespace Go.Proofs.Ytpccakalkcgdeaa
open Go.RowKit

theorem simplesL_append {L : Type} (x y : List (List (Int × List (Flat × L)))) : simplesL (x ++ y) = simplesL x ++ simplesL y := by unfold simplesL; rw [List.flatMap_append]
theorem wrap_i64 (z : Int) : IntKind.i64.wrap z = wrap64 z := IntWalk.i64_left z
theorem size_fold {d : Nat} (f : Lx d → Int) : ∀ (ys : List (Flat × Lx d)) (t : Int), ys.foldl (sizeS f) (wrap64 t) = wrap64 (t + ys.foldl (sizeS f) 0)
  | [], t => by simp
  | s :: ys, t => by
    have h1 : sizeS f (wrap64 t) s = wrap64 (t + wrap64 (1 + f s.2)) := by unfold sizeS; simp only [wrap_i64]; unfold wrap64; omega
    have h2 : sizeS f 0 s = wrap64 (wrap64 (1 + f s.2)) := by unfold sizeS; simp only [wrap_i64]; unfold wrap64; omega
    rw [List.foldl_cons, List.foldl_cons, h1, h2, size_fold f ys, size_fold f ys]
    unfold wrap64; omega
theorem size_append (d : Nat) (x y : List (List (Int × List (Flat × Lx d)))) : sizeF (d + 1) (x ++ y) = wrap64 (sizeF (d + 1) x + sizeF (d + 1) y) := by
  show (simplesL (x ++ y)).foldl (sizeS (sizeF d)) 0 = wrap64 ((simplesL x).foldl (sizeS (sizeF d)) 0 + (simplesL y).foldl (sizeS (sizeF d)) 0)
  have h0 : ∀ ys : List (Flat × Lx d), ys.foldl (sizeS (sizeF d)) 0 = wrap64 (ys.foldl (sizeS (sizeF d)) 0) := fun ys => by
    have := size_fold (sizeF d) ys 0
    rw [show wrap64 0 = 0 from by unfold wrap64; omega, Int.zero_add] at this
    exact this
  rw [simplesL_append, List.foldl_append, h0 (simplesL x), size_fold]
  unfold wrap64; omega
theorem deep_max {d : Nat} (f : Lx d → Int) : ∀ (ys : List (Flat × Lx d)) (t u : Int), ys.foldl (deepS f) (max t u) = max t (ys.foldl (deepS f) u)
  | [], t, u => rfl
  | s :: ys, t, u => by
    rw [List.foldl_cons, List.foldl_cons]
    have : deepS f (max t u) s = max t (deepS f u s) := by unfold deepS; split <;> omega
    rw [this]
    exact deep_max f ys t _
theorem deep_append (d : Nat) (x y : List (List (Int × List (Flat × Lx d)))) (hx : Shal (d + 1) x) (hy : Shal (d + 1) y) :
    deepF (d + 1) (x ++ y) = max (deepF (d + 1) x) (deepF (d + 1) y) := by
  show wrap64 (1 + (simplesL (x ++ y)).foldl (deepS (deepF d)) 0) = max (wrap64 (1 + (simplesL x).foldl (deepS (deepF d)) 0)) (wrap64 (1 + (simplesL y).foldl (deepS (deepF d)) 0))
  have bx := deep_bound (deepF d) 42 (by omega) (simplesL x) 0 (Int.le_refl _) (by omega) hx
  have bY := deep_bound (deepF d) 42 (by omega) (simplesL y) 0 (Int.le_refl _) (by omega) hy
  rw [simplesL_append, List.foldl_append]
  have : (simplesL y).foldl (deepS (deepF d)) ((simplesL x).foldl (deepS (deepF d)) 0) = max ((simplesL x).foldl (deepS (deepF d)) 0) ((simplesL y).foldl (deepS (deepF d)) 0) := by
    rw [← deep_max]; congr 1; omega
  rw [this]
  generalize (simplesL x).foldl (deepS (deepF d)) 0 = p at *
  generalize (simplesL y).foldl (deepS (deepF d)) 0 = q at *
  unfold wrap64 at *
  omega
theorem plusF_assoc (s t u : Sp) : plusF (plusF s t) u = plusF s (plusF t u) := by
  unfold plusF wrap64; simp only [Prod.mk.injEq]; omega
theorem plusF_zero (s t : Sp) : plusF (plusF s t) (0, 0, 0) = plusF s t := by
  unfold plusF wrap64; simp only [Prod.mk.injEq]; omega
theorem zero_plusF (s t : Sp) : plusF (0, 0, 0) (plusF s t) = plusF s t := by
  unfold plusF wrap64; simp only [Prod.mk.injEq]; omega
/-- A value of a sum: each of its numbers is an int. -/
def isSp (s : Sp) : Prop := plusF s (0, 0, 0) = s
theorem isSp_plus (s t : Sp) : isSp (plusF s t) := plusF_zero s t
theorem isSp_zero : isSp (0, 0, 0) := by unfold isSp plusF wrap64; simp
/-- A sum from some value on. -/
theorem spec_from {d : Nat} (g : Lx d → Sp) : ∀ (ys : List (Flat × Lx d)) (s : Sp), isSp s → ys.foldl (fun t s => plusF t (specS g s)) s = plusF s (ys.foldl (fun t s => plusF t (specS g s)) (0, 0, 0))
  | [], s, h => h.symm
  | y :: ys, s, h => by
    rw [List.foldl_cons, List.foldl_cons, spec_from g ys _ (isSp_plus _ _), spec_from g ys (plusF (0, 0, 0) (specS g y)) (isSp_plus _ _), plusF_assoc]
    congr 1
    unfold plusF wrap64; simp only [Prod.mk.injEq]; omega
theorem specX_isSp {d : Nat} (g : Lx d → Sp) (x : List (Int × List (Flat × Lx d))) : isSp (specX g x) := by
  unfold specX
  have h : ∀ (ys : List (Flat × Lx d)) (s : Sp), isSp s → isSp (ys.foldl (fun t s => plusF t (specS g s)) s) := fun ys => by
    induction ys with
    | nil => exact fun s h => h
    | cons y ys ih => exact fun s _ => ih _ (isSp_plus _ _)
  exact h _ _ isSp_zero
/-- A selector's specificity is that of its compounds together. -/
theorem spec_sums {d : Nat} (g : Lx d → Sp) : ∀ (x : List (Int × List (Flat × Lx d))) (s : Sp), isSp s → x.foldl (fun t k => plusF t (specX g [k])) s = plusF s (specX g x)
  | [], s, h => h.symm
  | k :: x, s, h => by
    rw [List.foldl_cons, spec_sums g x _ (isSp_plus _ _), plusF_assoc]
    congr 1
    have h1 : simplesX (k :: x) = simplesX [k] ++ simplesX x := by unfold simplesX; simp
    show _ = (simplesX (k :: x)).foldl (fun t s => plusF t (specS g s)) (0, 0, 0)
    rw [h1, List.foldl_append]
    exact (spec_from g (simplesX x) _ (specX_isSp g [k])).symm
theorem spec_sums0 {d : Nat} (g : Lx d → Sp) (x : List (Int × List (Flat × Lx d))) : x.foldl (fun t k => plusF t (specX g [k])) (0, 0, 0) = specX g x := by
  rw [spec_sums g x _ isSp_zero]
  have := specX_isSp g x
  unfold isSp at this
  rw [← this]
  unfold plusF wrap64; simp only [Prod.mk.injEq]; omega

/-- The slices that a slice of selectors holds. -/
theorem rdL_vals {d : Nat} {w : World} {a : Option Addr} {n c : Nat} {x : List (List (Int × List (Flat × Lx d)))} (h : RdL (· < w.heap.size) (d + 1) w a n c x) :
    ∃ vs : List Value, vs.length = n ∧ (∀ u ∈ vs, u.oneCell' = true) ∧ (n = 0 ∨ ∃ b off, a = some ⟨b, off, none⟩ ∧ ∀ j u, vs[j]? = some u → w.cell? ⟨b, off + j, none⟩ = some u) ∧
      ∀ (i : Nat) (cx : List (Int × List (Flat × Lx d))), x[i]? = some cx → ∃ a1 n1 c1, vs[i]? = some (Value.slice a1 n1 c1) ∧ RdX (· < w.heap.size) (RdL (· < w.heap.size) d w) w a1 n1 c1 cx := by
  have h0 := h.1
  rcases Nat.eq_zero_or_pos n with hz | hp
  · subst hz
    have : x = [] := List.length_eq_zero_iff.1 h0.symm
    subst this
    exact ⟨[], rfl, by simp, .inl rfl, fun i cx hi => by simp at hi⟩
  · have hex : ∀ i : Nat, ∃ u : Value, i < n → u.oneCell' = true ∧ (∃ b off, a = some ⟨b, off, none⟩ ∧ w.cell? ⟨b, off + i, none⟩ = some u) ∧ ∀ (cx : List (Int × List (Flat × Lx d))), x[i]? = some cx → ∃ a1 n1 c1, u = Value.slice a1 n1 c1 ∧ RdX (· < w.heap.size) (RdL (· < w.heap.size) d w) w a1 n1 c1 cx := fun i => by
      by_cases hi : i < n
      · obtain ⟨cx, hcx⟩ : ∃ cx, x[i]? = some cx := ⟨_, List.getElem?_eq_getElem (by rw [← h0]; exact hi)⟩
        obtain ⟨b, off, ha, hb, a1, n1, c1, hc, hX⟩ := h.at i cx hcx
        rw [Nat.mul_one] at hc
        exact ⟨Value.slice a1 n1 c1, fun _ => ⟨rfl, ⟨b, off, ha, hc⟩, fun cy hy => ⟨a1, n1, c1, rfl, by rw [hcx] at hy; cases hy; exact hX⟩⟩⟩
      · exact ⟨Value.bool false, fun h => absurd h hi⟩
    obtain ⟨f, hf⟩ := Classical.axiomOfChoice hex
    have hat : ∀ i u, ((List.range n).map f)[i]? = some u → i < n ∧ u = f i := fun i u hu => by
      rw [List.getElem?_map] at hu
      rcases Nat.lt_or_ge i n with hi | hi
      · rw [List.getElem?_range hi] at hu; exact ⟨hi, by simpa using hu.symm⟩
      · rw [List.getElem?_eq_none (l := List.range n) (by rw [List.length_range]; exact hi)] at hu; simp at hu
    refine ⟨(List.range n).map f, by simp, fun u hu => ?_, .inr ?_, fun i cx hcx => ?_⟩
    · obtain ⟨i, hlt, hi⟩ := List.mem_iff_getElem.1 hu
      obtain ⟨h1, rfl⟩ := hat i u (by rw [List.getElem?_eq_getElem hlt, hi])
      exact (hf i h1).1
    · obtain ⟨b, off, ha, _⟩ := (hf 0 hp).2.1
      refine ⟨b, off, ha, fun j u hu => ?_⟩
      obtain ⟨h1, rfl⟩ := hat j u hu
      obtain ⟨b', off', ha', hc'⟩ := (hf j h1).2.1
      rw [ha] at ha'; cases ha'
      exact hc'
    · have hi : i < n := by rw [h0]; exact (List.getElem?_eq_some_iff.1 hcx).1
      obtain ⟨a1, n1, c1, h1, h2⟩ := (hf i hi).2.2 cx hcx
      exact ⟨a1, n1, c1, by rw [List.getElem?_map, List.getElem?_range hi, Option.map_some, h1], h2⟩

/-- The append of a slice of cells to a row of one's own. -/
theorem wpList_append_vals {P : Program} {w : World} {ops : Array Oper} {rest : List Oper} {o : Oper} {a : Act} {Q : Exit → Act → World → Prop} (hgd : o.guard = none) (s x : Operand) (t : TypeId)
    (ho : o.op = .call { callee := .builtin .append, args := #[s, x], argTypes := #[t, t] })
    (base : Nat) (e : TypeId) (i : TypeInfo) (z : Value) (bytes : Nat) (ht : P.underlying t = some (.slice e)) (hi : P.info? e = some i) (hz : i.zero = some z) (hzs : z.cells.size = 1)
    (hsize : i.size = 1) (hby : i.bytes = bytes)
    (v : Value) (n : Nat) (acc : List Value) (hs : a.eval s = v) (hown : w.ownsRow base e 1 v n acc)
    (ad : Option Addr) (m c : Nat) (vs : List Value) (hm : vs.length = m) (hx : a.eval x = .slice ad m c) (hone : ∀ u ∈ vs, u.oneCell' = true) (hr : m = 0 ∨ ∃ b off, ad = some ⟨b, off, none⟩ ∧ ∀ j u, vs[j]? = some u → w.cell? ⟨b, off + j, none⟩ = some u) (hnil : ad = none → c = 0)
    (h63 : n + m ≤ maxLen) (hbytes : (n + m) * bytes ≤ 140737488355328) (hbase : base ≤ w.heap.size)
    (h : ∀ v' w', w'.ownsRow base e 1 v' (n + m) (acc ++ vs) → w.grownBy w' v.ownBlock → wpList P ops Q rest (a.put o.dst v') w') : wpList P ops Q (o :: rest) a w := by
  subst hm
  rcases ad with _ | ad
  · have hz0 : vs = [] := by
      rcases hr with h0 | ⟨b, off, hb, _⟩
      · exact List.length_eq_zero_iff.1 h0
      · cases hb
    subst hz0
    rw [hnil rfl] at hx
    exact wpList_append_own_none hgd s x t ho base e i 1 ht hi v n _ hs hown hx (h v w (by simpa using hown) (World.grownBy.refl _ _))
  · refine wpList_append_own w hgd s x t ho base e i z 1 bytes ht hi hz hsize hby hzs (by decide) v n _ hs hown ad vs.length c vs hx (by simp) ?_ hone h63 hbytes hbase (fun v' w' h1 h2 _ => h v' w' h1 h2)
    rcases hr with h0 | ⟨b, off, hb, hat⟩
    · have : vs = [] := List.length_eq_zero_iff.1 h0
      subst this; intro j u hu; simp at hu
    · cases hb; exact fun j u hu => by have := hat j u hu; rwa [show (⟨b, off, none⟩ : Addr).add j = ⟨b, off + j, none⟩ from by simp [Addr.add]]
theorem owns_empty' {w : World} {g base : Nat} {e : TypeId} (h : w.heap[g]? = some (.cells #[] e (0, 0))) (hb : base ≤ g) : w.ownsRow base e 1 (.slice (some ⟨g, 0, none⟩) 0 0) 0 [] :=
  ⟨rfl, .inr ⟨g, 0, #[], rfl, hb, h, Nat.le_refl _, by simp [maxLen], rfl, rfl⟩⟩
end Go.Proofs.Ytpccakalkcgdeaa
