/- Several texts of mine in one. -/
import Derived.Test.YtknggcbhfkbelaaDq5
import Derived.Test.YtknggcbhfkbelaaDo8
import Derived.Test.YtknggcbhfkbelaaDm8
import Derived.Deep.AppendLies
import Derived.Test.YtknggcbhfkbelaaDn3
import Derived.Test.YtknggcbhfkbelaaSame
import Derived.Test.YtknggcbhfkbelaaDq4
import Derived.Test.YtknggcbhfkbelaaDq6
import Derived.Test.YtknggcbhfkbelaaDm6
import Derived.Test.YtknggcbhfkbelaaDn6
import Derived.Deep.CutRange
import Derived.Deep.RegionLaw
import Derived.Deep.RegionHeld3
namespace Go.Proofs.Ytknggcbhfkbelaa
section
open Go.RowKit
set_option linter.unusedVariables false
set_option linter.unusedSimpArgs false

theorem hit_lt {xs : List Nd} {p : Int} {k : Nat} (h : hit xs p k = true) : k < xs.length := by
  obtain ⟨x, hx, _⟩ := hit_elim h
  exact (List.getElem?_eq_some_iff.1 hx).1
theorem roots_mono (xs : List Nd) : ∀ m k, k ≤ m → rootsTo xs k ≤ rootsTo xs m
  | 0, k, h => by rw [show k = 0 by omega]; exact Nat.le_refl _
  | m + 1, k, h => by
    by_cases he : k = m + 1
    · rw [he]; exact Nat.le_refl _
    · have := roots_mono xs m k (by omega)
      show _ ≤ rootsTo xs m + _
      omega
theorem roots_succ (xs : List Nd) (k : Nat) : rootsTo xs (k + 1) = rootsTo xs k + (if hit xs (-1) k = true then 1 else 0) := rfl
theorem rightP_of {xs : List Nd} (h : RightD xs) : RightP xs := by
  refine ⟨fun k x hx => ?_, fun j k hj hk => ?_⟩
  · have hk := (List.getElem?_eq_some_iff.1 hx).1
    have := h.1 k hk
    unfold nodeK at this
    rw [hx] at this
    rcases nodeB_par this with h1 | ⟨h1, h2, _⟩
    · exact .inl h1
    · exact .inr ⟨h1, by rw [List.length_take] at h2; omega⟩
  · have key : ∀ a b : Nat, a < b → hit xs (-1) a = true → hit xs (-1) b = true → False := fun a b hab ha hb => by
      have h1 := roots_mono xs b (a + 1) (by omega)
      have h2 := roots_mono xs xs.length (b + 1) (hit_lt hb)
      rw [roots_succ, if_pos ha] at h1
      rw [roots_succ, if_pos hb] at h2
      have := h.2
      omega
    rcases Nat.lt_trichotomy j k with h1 | h1 | h1
    · exact (key j k h1 hj hk).elim
    · exact h1
    · exact (key k j h1 hk hj).elim
theorem snoc_lt {xs : List Nd} {y : Nd} {k : Nat} (h : k < xs.length) : (xs ++ [y])[k]? = xs[k]? := List.getElem?_append_left h
theorem snoc_at {xs : List Nd} {y : Nd} : (xs ++ [y])[xs.length]? = some y := by rw [List.getElem?_append_right (Nat.le_refl _)]; simp
theorem hit_snoc {xs : List Nd} {y : Nd} {p : Int} {k : Nat} (h : k < xs.length) : hit (xs ++ [y]) p k = hit xs p k := by unfold hit; rw [snoc_lt h]
theorem desc_snoc {xs : List Nd} {y : Nd} {p : Int} : ∀ k, k ≤ xs.length → desc (xs ++ [y]) p k = desc xs p k
  | 0, _ => rfl
  | k + 1, h => by rw [desc_succ, desc_succ, hit_snoc (by omega), desc_snoc k (by omega)]
theorem roots_snoc {xs : List Nd} {y : Nd} : ∀ k, k ≤ xs.length → rootsTo (xs ++ [y]) k = rootsTo xs k
  | 0, _ => rfl
  | k + 1, h => by rw [roots_succ, roots_succ, hit_snoc (by omega), roots_snoc k (by omega)]
theorem nodeK_snoc {xs : List Nd} {y : Nd} {k : Nat} (h : k < xs.length) : nodeK (xs ++ [y]) k = nodeK xs k := by
  unfold nodeK
  rw [snoc_lt h, List.take_append_of_le_length (by omega)]
theorem rightD_snoc {xs : List Nd} {y : Nd} (h : RightD xs) (hy : nodeB xs y = true) (hp : 0 ≤ y.par) : RightD (xs ++ [y]) := by
  refine ⟨fun k hk => ?_, ?_⟩
  · rw [List.length_append] at hk
    by_cases he : k < xs.length
    · rw [nodeK_snoc he]; exact h.1 k he
    · obtain rfl : k = xs.length := by simp at hk; omega
      unfold nodeK
      rw [snoc_at]
      simp only
      rw [List.take_append_of_le_length (Nat.le_refl _), List.take_of_length_le (Nat.le_refl _)]
      exact hy
  · rw [List.length_append]
    show rootsTo (xs ++ [y]) (xs.length + 1) = 1
    rw [roots_succ, roots_snoc _ (Nat.le_refl _), h.2, if_neg]
    intro hh
    obtain ⟨x, hx, _, h2⟩ := hit_elim hh
    rw [snoc_at] at hx
    cases hx
    omega
/-- What is told of the new element. -/
theorem grown_tells {xs : List Nd} {y : Nd} (h : RightD (xs ++ [y])) (hk : y.kind = 1) (hp : y.par ≠ -1) :
    parI (xs ++ [y]) (xs.length : Int) = y.par ∧ elemB (xs ++ [y]) (xs.length : Int) = true ∧
    ((aheadI (xs ++ [y]) (xs.length : Int) = -1 ∧ rowI (xs ++ [y]) (xs.length : Int) = [xs.length]) ∨
     (∃ (j : Nat) (zs : List Nat), j < xs.length ∧ aheadI (xs ++ [y]) (xs.length : Int) = (j : Int) ∧ rowI (xs ++ [y]) (j : Int) = zs ++ [j] ∧ rowI (xs ++ [y]) (xs.length : Int) = zs ++ [j] ++ [xs.length])) := by
  have hE : elemB (xs ++ [y]) (xs.length : Int) = true := by unfold elemB; rw [atI_nat, snoc_at]; exact decide_eq_true hk
  refine ⟨by unfold parI; rw [atI_nat, snoc_at]; simp only; rw [if_pos hk], hE, ?_⟩
  have hA : aheadI (xs ++ [y]) (xs.length : Int) = aheadF (xs ++ [y]) xs.length := by unfold aheadI; rw [hE, if_pos rfl, Int.toNat_natCast]
  have hRow : rowI (xs ++ [y]) (xs.length : Int) = (desc (xs ++ [y]) y.par xs.length).reverse ++ [xs.length] := by
    unfold rowI
    rw [hE, if_pos rfl, Int.toNat_natCast]
    unfold rowF
    rw [snoc_at]
    simp only
    rw [if_pos hk, desc_succ, if_pos (hit_of snoc_at hk), List.reverse_cons]
  rw [hA, hRow]
  rcases ahead_step (rightP_of h) (snoc_at (xs := xs) (y := y)) hk with ⟨h1, h2⟩ | ⟨j, z, hj, h1, h2, h3, h4, h5⟩
  · exact .inl ⟨h1, by rw [h2]; rfl⟩
  · have hh : hit (xs ++ [y]) y.par j = true := by rw [← h4]; exact hit_of h2 h3
    have hd : (desc (xs ++ [y]) y.par (j + 1)).reverse = (desc (xs ++ [y]) y.par j).reverse ++ [j] := by rw [desc_succ, if_pos hh, List.reverse_cons]
    refine .inr ⟨j, (desc (xs ++ [y]) y.par j).reverse, hj, h1, ?_, by rw [h5, hd]⟩
    have hEj : elemB (xs ++ [y]) (j : Int) = true := by unfold elemB; rw [atI_nat, h2]; exact decide_eq_true h3
    unfold rowI
    rw [hEj, if_pos rfl, Int.toNat_natCast]
    unfold rowF
    rw [h2]
    simp only
    rw [if_pos h3, h4, hd]
end

section
open Go.RowKit
set_option linter.unusedVariables false
set_option linter.unusedSimpArgs false

theorem step_append_rows {P : Program} {ops : Array Oper} {o : Oper} {a : Act} {w : World} {K : Act → World → Prop} {Q : Exit → Act → World → Prop} {E : Prop}
    (hg : o.guard = none) (s x : Operand) (t : TypeId) (ho : o.op = Op.call { callee := Callee.builtin Builtin.append, args := #[s, x], argTypes := #[t, t] })
    (base : Nat) (e : TypeId) (i : TypeInfo) (z : Value) (sz bytes : Nat) (ht : P.underlying t = some (.slice e)) (hi : P.info? e = some i) (hz : i.zero = some z) (hzs : z.cells.size = sz) (hsz : 0 < sz)
    (hsize : i.size = sz) (hby : i.bytes = bytes)
    (v : Value) (n : Nat) (acc : List Value) (hs : a.eval s = v)
    (ad : Option Addr) (m c : Nat) (vs : List Value) (hm : vs.length = m * sz) (hx : a.eval x = .slice ad m c) (hone : ∀ u ∈ vs, u.oneCell' = true) (hnil : ad = none → c = 0)
    (h63 : n + m ≤ maxLen) (hbytes : (n + m) * bytes ≤ 140737488355328)
    (hown : w.ownsRow base e sz v n acc) (hr : m = 0 ∨ ∃ b off, ad = some ⟨b, off, none⟩ ∧ ∀ (j : Nat) (u : Value), vs[j]? = some u → w.cell? ⟨b, off + j, none⟩ = some u) (hbase : base ≤ w.heap.size)
    (h : ∀ v' w', w'.ownsRow base e sz v' (n + m) (acc ++ vs) → w.grownBy w' v.ownBlock → K (a.put o.dst v') w') :
    if Region.wanted o (yielded ops a.tmps) = true then Oper.wp P o a w K Q else E := by
  have hw : Region.wanted o (yielded ops a.tmps) = true := by simp [Region.wanted, hg]
  rw [if_pos hw]
  rcases ad with _ | ad
  · have hz0 : m = 0 := by
      rcases hr with h0 | ⟨b, off, hb, _⟩
      · exact h0
      · cases hb
    subst hz0
    have hv0 : vs = [] := List.length_eq_zero_iff.1 (by rw [hm]; simp)
    subst hv0
    rw [hnil rfl] at hx
    have hrun := run_append_owned_none (P := P) (w := w) base t o.type e i sz ht hi v n acc hown
    unfold Oper.wp
    simp [execOp, ho, resolve, invoke, builtin, hs, hx, hrun, Result.andThen]
    exact h v w (by simpa using hown) (World.grownBy.refl _ _)
  · obtain ⟨v', w', hrun, r1, r2, _⟩ := run_append_own (P := P) w base t o.type e i z sz bytes ht hi hz hsize hby hzs hsz v n acc hown ad m c vs hm (by
      rcases hr with h0 | ⟨b, off, hb, hat⟩
      · have : vs = [] := List.length_eq_zero_iff.1 (by rw [hm, h0]; simp)
        subst this; intro j u hu; simp at hu
      · cases hb; exact fun j u hu => by have := hat j u hu; rwa [show (⟨b, off, none⟩ : Addr).add j = ⟨b, off + j, none⟩ from by simp [Addr.add]]) hone h63 hbytes hbase
    unfold Oper.wp
    simp [execOp, ho, resolve, invoke, builtin, hs, hx, hrun, Result.andThen]
    exact h v' w' r1 r2

/-- The row of one's own reads as the document with the node more. -/
theorem grown_rd {w w' : World} {e : TypeId} {v : Value} {a : Option Addr} {n c : Nat} {xs : List Nd} {vs : List Value} {y : Nd} {a1 a2 : Option Addr} {n1 n2 c1 c2 : Nat} {base : Nat} (h : RdN (· < w.heap.size) w a n c xs) (hn : n ≤ 1000000)
    (hl : vs.length = n * 7) (hv : n = 0 ∨ ∃ b off, a = some ⟨b, off, none⟩ ∧ b < w.heap.size ∧ (∀ j u, vs[j]? = some u → w.cell? ⟨b, off + j, none⟩ = some u) ∧ ∀ i x, xs[i]? = some x → NodeAt (· < w.heap.size) w b (off + i * 7) x)
    (hA : RdA (· < w.heap.size) w a1 n1 c1 y.attrs) (hS : RdS (· < w.heap.size) w a2 n2 c2 y.states) (hz : y.space.size ≤ 140737488351232 ∧ y.name.size ≤ 140737488351232 ∧ y.text.size ≤ 140737488351232)
    (hb : Below w.heap.size w w')
    (ho : w'.ownsRow base e 7 v (n + 1) (vs ++ [.int .i64 y.par, .int .i64 y.kind, .string y.space, .string y.name, .slice a1 n1 c1, .slice a2 n2 c2, .string y.text])) :
    ∃ a' c', v = .slice a' (n + 1) c' ∧ RdN (· < w'.heap.size) w' a' (n + 1) c' (xs ++ [y]) := by
  obtain ⟨g, cap, cs, hv', hbg, hB, h1, h2, h3, h4⟩ := own_get ho (by omega)
  have hmv : ∀ b, b < w.heap.size → b < w'.heap.size ∧ w'.heap[b]? = w.heap[b]? := fun b hb' => ⟨Nat.lt_of_lt_of_le hb' hb.size, hb.block b hb'⟩
  refine ⟨_, cap, hv', by rw [List.length_append, ← h.1]; rfl, h1, ⟨h2, by omega, fun h => by cases h⟩, .inr ⟨g, 0, rfl, hB.lt, fun i x hx => ?_⟩⟩
  by_cases hi : i < n
  · obtain ⟨b, off, _, _, hc, hP⟩ := hv.resolve_left (by omega)
    rw [List.getElem?_append_left (by rw [← h.1]; exact hi)] at hx
    obtain ⟨p0, p1, p2, p3, ⟨b1, m1, d1, p4, pA⟩, ⟨b2, m2, d2, p5, pS⟩, p6, p7⟩ := hP i x hx
    have hat : ∀ f u, f < 7 → w.cell? ⟨b, off + i * 7 + f, none⟩ = some u → w'.cell? ⟨g, 0 + i * 7 + f, none⟩ = some u := fun f u hf hu => by
      obtain ⟨u', hu'⟩ : ∃ u', vs[i * 7 + f]? = some u' := ⟨_, List.getElem?_eq_getElem (by omega)⟩
      have := hc _ u' hu'
      rw [← Nat.add_assoc, hu] at this
      cases this
      rw [Nat.zero_add]
      exact hB.cell _ _ (h4 _ _ (by rw [List.getElem?_append_left (by omega)]; exact hu'))
    exact ⟨hat 0 _ (by omega) p0, hat 1 _ (by omega) p1, hat 2 _ (by omega) p2, hat 3 _ (by omega) p3, ⟨b1, m1, d1, hat 4 _ (by omega) p4, pA.move hmv⟩, ⟨b2, m2, d2, hat 5 _ (by omega) p5, pS.move hmv⟩, hat 6 _ (by omega) p6, p7⟩
  · have hin : i = n := by
      have := (List.getElem?_eq_some_iff.1 hx).1
      rw [List.length_append, ← h.1] at this
      simp at this
      omega
    subst hin
    rw [List.getElem?_append_right (by rw [← h.1]; exact Nat.le_refl _), ← h.1, Nat.sub_self] at hx
    cases hx
    have hat : ∀ f u, ([.int .i64 y.par, .int .i64 y.kind, .string y.space, .string y.name, .slice a1 n1 c1, .slice a2 n2 c2, .string y.text] : List Value)[f]? = some u → w'.cell? ⟨g, 0 + i * 7 + f, none⟩ = some u := fun f u hu => by
      rw [Nat.zero_add]
      refine hB.cell _ _ (h4 _ _ ?_)
      rw [List.getElem?_append_right (by omega), hl, Nat.add_sub_cancel_left]
      exact hu
    exact ⟨hat 0 _ rfl, hat 1 _ rfl, hat 2 _ rfl, hat 3 _ rfl, ⟨a1, n1, c1, hat 4 _ rfl, hA.move hmv⟩, ⟨a2, n2, c2, hat 5 _ rfl, hS.move hmv⟩, hat 6 _ rfl, hz⟩
end

section
open Go.RowKit
set_option linter.unusedVariables false
set_option linter.unusedSimpArgs false

theorem rightP0 : RightP doc0 := by
  refine ⟨fun k x hx => ?_, fun j k hj hk => ?_⟩
  · have hk : k < 3 := (List.getElem?_eq_some_iff.1 hx).1
    rcases (show k = 0 ∨ k = 1 ∨ k = 2 by omega) with rfl | rfl | rfl <;> cases hx
    · exact .inl rfl
    · exact .inr ⟨by decide, by decide⟩
    · exact .inr ⟨by decide, by decide⟩
  · have h0 : ∀ i, hit doc0 (-1) i = true → i = 0 := fun i hi => by
      obtain ⟨x, hx, _, hp⟩ := hit_elim hi
      have hk : i < 3 := (List.getElem?_eq_some_iff.1 hx).1
      rcases (show i = 0 ∨ i = 1 ∨ i = 2 by omega) with rfl | rfl | rfl
      · rfl
      · cases hx; cases hp
      · cases hx; cases hp
    rw [h0 j hj, h0 k hk]
theorem rowI0 : rowI doc0 2 = [1, 2] := by decide

set_option maxRecDepth 100000 in
set_option maxHeartbeats 4000000 in
theorem speaks11 (w : World) : Calls Try.prog 6 #[] w (Told (.bool true) w) := by
  have hB : Blk (w.alloc (.cells #[.int .i64 (-1), .int .i64 1, .string ⟨#[]⟩, .string ⟨#[97]⟩, .slice none 0 0, .slice none 0 0, .string ⟨#[]⟩, .int .i64 0, .int .i64 1, .string ⟨#[]⟩, .string ⟨#[98]⟩, .slice none 0 0, .slice none 0 0, .string ⟨#[]⟩, .int .i64 0, .int .i64 1, .string ⟨#[]⟩, .string ⟨#[99]⟩, .slice none 0 0, .slice none 0 0, .string ⟨#[]⟩] 44)) w.heap.size docCs 44 := Blk.alloc docCs _
  have hb := (Below.refl w.heap.size w).alloc (Nat.le_refl _) (.cells #[.int .i64 (-1), .int .i64 1, .string ⟨#[]⟩, .string ⟨#[97]⟩, .slice none 0 0, .slice none 0 0, .string ⟨#[]⟩, .int .i64 0, .int .i64 1, .string ⟨#[]⟩, .string ⟨#[98]⟩, .slice none 0 0, .slice none 0 0, .string ⟨#[]⟩, .int .i64 0, .int .i64 1, .string ⟨#[]⟩, .string ⟨#[99]⟩, .slice none 0 0, .slice none 0 0, .string ⟨#[]⟩] 44)
  have fN := new_any doc0 (some ⟨w.heap.size, 0, none⟩) 3 3 _ (doc0_rd hB 3 (Nat.le_refl _)) (by omega) (fun x hx => by
    have : x.attrs = [] ∧ x.states = [] := by
      rcases List.mem_cons.1 hx with rfl | hx
      · exact ⟨rfl, rfl⟩
      rcases List.mem_cons.1 hx with rfl | hx
      · exact ⟨rfl, rfl⟩
      rcases List.mem_cons.1 hx with rfl | hx
      · exact ⟨rfl, rfl⟩
      · cases hx
    rw [this.1, this.2]
    exact ⟨by simp, by simp⟩) (fun k x hx _ => by
      have hk : k < 3 := (List.getElem?_eq_some_iff.1 hx).1
      rcases rightP0.par k x hx with h | h
      · exact .inl h
      · exact .inr (by omega)) (check_0 w.heap.size _ hB)
  have HB := Lib.hid hb
  clear hB hb
  go_enter Try.func6, Try.ntmps6
  go_wp2_with fail
  refine fN.mono ?_
  rintro e1 w1 ⟨t, b, r, rfl, hT, hb1⟩
  have hb2 := HB.out.trans (hb1.mono HB.out.size)
  have fR := row_any hT rightP0 (by omega) 2
  have HB2 := Lib.hid hb2
  rw [rowI0] at fR
  clear fN hb1 hT hb2
  go_wp2_with (first
    | (go_at_call 21; (refine fR.mono ?_); rintro e w2 ⟨a, c, rfl, hrd, hb3⟩; have hb4 := HB2.out.trans (hb3.mono HB2.out.size); have hbx := hb4.alloc hb4.size (.cells #[.int .i64 1, .int .i64 2] 3); have hnw : Reads (w2.alloc (.cells #[.int .i64 1, .int .i64 2] 3)) .i64 (some ⟨w2.heap.size, 0, none⟩) 2 [1, 2] := ⟨by simp, by unfold maxLen; omega, .inr ⟨w2.heap.size, 0, rfl, by simp, fun j hj => by
        have hA := Blk.alloc (w := w2) [.int .i64 1, .int .i64 2] 3
        rcases (show j = 0 ∨ j = 1 by simp at hj; omega) with rfl | rfl
        · exact hA.cell 0 _ rfl
        · exact hA.cell 1 _ rfl⟩⟩; have hrd2 := hrd.later ((Below.refl w2.heap.size w2).alloc (Nat.le_refl _) (.cells #[.int .i64 1, .int .i64 2] 3)); have fS := same_any a (some ⟨w2.heap.size, 0, none⟩) c 2 [1, 2] [1, 2] _ hrd2 hnw)
    | (go_at_call 15; (refine fS.mono ?_); rintro e w3 ⟨rfl, hb5⟩))
  go_ret
  exact ⟨rfl, hbx.trans (hb5.mono hbx.size)⟩
end

section
open Go.RowKit
set_option linter.unusedVariables false
set_option linter.unusedSimpArgs false

theorem mil_of_sm {x : Nd} (h : SmN x) : MilN x := by
  obtain ⟨h1, h2, h3, h4, h5, h6⟩ := h
  exact ⟨by omega, by omega, by omega, fun t ht => by obtain ⟨a, b, c⟩ := h6 t ht; exact ⟨by omega, by omega, by omega⟩, by omega, by omega⟩
theorem bel_tr {w0 w1 w2 : World} (h : Below w0.heap.size w0 w1) (h2 : Below w1.heap.size w1 w2) : Below w0.heap.size w0 w2 := h.trans (h2.mono h.size)
/-- A node's cells. -/
def ndL (y : Nd) (a1 a2 : Option Addr) (n1 n2 c1 c2 : Nat) : List Value := [.int .i64 y.par, .int .i64 y.kind, .string y.space, .string y.name, .slice a1 n1 c1, .slice a2 n2 c2, .string y.text]
theorem one_rd {w : World} {g : Nat} {y : Nd} {a1 a2 : Option Addr} {n1 n2 c1 c2 : Nat} {T : TypeId} (hB : Blk w g (ndL y a1 a2 n1 n2 c1 c2) T) (hA : RdA (· < w.heap.size) w a1 n1 c1 y.attrs) (hS : RdS (· < w.heap.size) w a2 n2 c2 y.states) (hz : y.space.size ≤ 140737488351232 ∧ y.name.size ≤ 140737488351232 ∧ y.text.size ≤ 140737488351232) :
    RdN (· < w.heap.size) w (some ⟨g, 0, none⟩) 1 1 [y] :=
  ⟨rfl, Nat.le_refl _, ⟨by unfold maxLen; omega, by omega, fun h => by cases h⟩, .inr ⟨g, 0, rfl, hB.lt, fun i x hx => by
    have hi : i = 0 := by have := (List.getElem?_eq_some_iff.1 hx).1; simp at this; omega
    subst hi
    cases hx
    exact ⟨hB.cell 0 _ rfl, hB.cell 1 _ rfl, hB.cell 2 _ rfl, hB.cell 3 _ rfl, ⟨a1, n1, c1, hB.cell 4 _ rfl, hA⟩, ⟨a2, n2, c2, hB.cell 5 _ rfl, hS⟩, hB.cell 6 _ rfl, hz⟩⟩⟩

set_option maxRecDepth 100000 in
set_option maxHeartbeats 8000000 in
theorem lawGrows_any (xs : List Nd) (a : Option Addr) (n c : Nat) (y : Nd) (p0 : Int) (a1 a2 : Option Addr) (n1 n2 c1 c2 : Nat) (w : World) (hx : RdN (· < w.heap.size) w a n c xs)
    (hA : RdA (· < w.heap.size) w a1 n1 c1 y.attrs) (hS : RdS (· < w.heap.size) w a2 n2 c2 y.states) (hz : y.space.size ≤ 140737488351232 ∧ y.name.size ≤ 140737488351232 ∧ y.text.size ≤ 140737488351232) :
    Calls Try.prog 5 #[.slice a n c, .agg #[.int .i64 p0, .int .i64 y.kind, .string y.space, .string y.name, .slice a1 n1 c1, .slice a2 n2 c2, .string y.text], .int .i64 y.par] w (Told (.bool true) w) := by
  have HX := Lib.hid (fun w' (hb : Below w.heap.size w w') => hx.later hb (Nat.le_refl _))
  have HA := Lib.hid (fun w' (hb : Below w.heap.size w w') => hA.later hb (Nat.le_refl _))
  have HS := Lib.hid (fun w' (hb : Below w.heap.size w w') => hS.later hb (Nat.le_refl _))
  have HX0 := Lib.hid hx
  have HN := Lib.hid hx.1
  have HZ := Lib.hid hz
  obtain ⟨w0, hw0⟩ : ∃ w0, w.alloc (.cells #[.int .i64 p0, .int .i64 y.kind, .string y.space, .string y.name, .slice a1 n1 c1, .slice a2 n2 c2, .string y.text] 44) = w0 := ⟨_, rfl⟩
  have B0 : Blk w0 w.heap.size (ndL { y with par := p0 } a1 a2 n1 n2 c1 c2) 44 := by rw [← hw0]; exact Blk.alloc _ _
  have hb0 : Below w.heap.size w w0 := by rw [← hw0]; exact (Below.refl _ _).alloc (Nat.le_refl _) _
  have HB0 := Lib.hid (And.intro B0 hb0)
  clear hx hA hS hz B0 hb0
  go_enter Try.func5, Try.ntmps5
  go_wp2_with fail
  refine (speaks11 _).mono ?_
  rintro e1 w1 ⟨rfl, hb1⟩
  have B1 := HB0.out.1.later hb1 HB0.out.1.lt
  have hb01 := bel_tr HB0.out.2 hb1
  go_wp2_with fail
  refine (rcheck_any xs a n c w1 (HX.out w1 hb01)).mono ?_
  rintro e2 w2 ⟨k, at', rfl, hb2, hk⟩
  have B2 := B1.later hb2 B1.lt
  have hb02 := bel_tr hb01 hb2
  have g0 := B2.cell 0 _ rfl
  have f0 := B2.frozen 0
  obtain ⟨w3, hw3⟩ : ∃ w3, w2.setCell ⟨w.heap.size, 0, none⟩ (.int .i64 y.par) = w3 := ⟨_, rfl⟩
  have B3 : Blk w3 w.heap.size (ndL y a1 a2 n1 n2 c1 c2) 44 := by rw [← hw3]; exact B2.setCell 0 _
  have hb03 : Below w.heap.size w w3 := by rw [← hw3]; exact hb02.setCell (p := ⟨w.heap.size, 0, none⟩) (Nat.le_refl _) _
  have HK := Lib.hid hk
  have HB3 := Lib.hid (And.intro B3 hb03)
  clear hk hb1 hb2 B1 B2 hb01 hb02 B3 hb03
  go_wp2_with fail
  refine (rgreat_any xs 100 (by omega) a n c w3 (HX.out w3 HB3.out.2)).mono ?_
  rintro e4 w4 ⟨v1, rfl, hb4, hv1⟩
  have hb04 := bel_tr HB3.out.2 hb4
  have B4 := HB3.out.1.later hb4 HB3.out.1.lt
  cases v1 with
  | true =>
    clear hv1
    go_wp2
    go_ret
    exact ⟨rfl, hb04⟩
  | false =>
  have HV1 := Lib.hid (hv1 rfl)
  have HB4 := Lib.hid (And.intro B4 hb04)
  have i0 := B4.cell 0 _ rfl
  have i1 := B4.cell 1 _ rfl
  have i2 := B4.cell 2 _ rfl
  have i3 := B4.cell 3 _ rfl
  have i4 := B4.cell 4 _ rfl
  have i5 := B4.cell 5 _ rfl
  have i6 := B4.cell 6 _ rfl
  obtain ⟨w5, hw5⟩ : ∃ w5, w4.alloc (.cells #[.int .i64 y.par, .int .i64 y.kind, .string y.space, .string y.name, .slice a1 n1 c1, .slice a2 n2 c2, .string y.text] 44) = w5 := ⟨_, rfl⟩
  have C5 : Blk w5 w4.heap.size (ndL y a1 a2 n1 n2 c1 c2) 44 := by rw [← hw5]; exact Blk.alloc _ _
  have B5 : Blk w5 w.heap.size (ndL y a1 a2 n1 n2 c1 c2) 44 := by rw [← hw5]; exact HB4.out.1.alloc_old _
  have hb05 : Below w.heap.size w w5 := by rw [← hw5]; exact HB4.out.2.alloc HB4.out.2.size _
  have fG := rgreat_any [y] 1 (by omega) (some ⟨w4.heap.size, 0, none⟩) 1 1 w5 (one_rd C5 (HA.out w5 hb05) (HS.out w5 hb05) HZ.out)
  have HB5 := Lib.hid (And.intro B5 hb05)
  clear hv1 hb4 hb04 B4 C5 B5 hb05 g0 f0
  go_wp2_with fail
  refine fG.mono ?_
  rintro e6 w6 ⟨v2, rfl, hb6, hv2⟩
  have hb06 := bel_tr HB5.out.2 hb6
  have B6 := HB5.out.1.later hb6 HB5.out.1.lt
  clear i0 i1 i2 i3 i4 i5 i6 fG
  cases v2 with
  | true =>
    clear hv2
    go_wp2
    go_ret
    exact ⟨rfl, hb06⟩
  | false =>
  have HV2 := Lib.hid (hv2 rfl)
  have HB6 := Lib.hid (And.intro B6 hb06)
  clear hv2 hb6 hb06 B6
  by_cases hk0 : k = 0
  rotate_left
  · have q : (k != 0) = true := by rw [bne, beq_eq_false_iff_ne.2 hk0]; rfl
    clear hk0
    go_wp2
    go_ret
    exact ⟨rfl, HB6.out.2⟩
  subst hk0
  have HD : Hid (RightD xs) := Lib.hid (by
    rcases HK.out with h | h | h
    · exact h.2.2
    · cases h.1
    · cases h.1)
  have fE := relement_any xs a n c y.par (· < w6.heap.size) w6 (HX.out w6 HB6.out.2)
  cases hE : elemB xs y.par with
  | false =>
    rw [hE] at fE
    clear hE
    go_wp2_with (go_at_call 18; (refine fE.mono ?_); rintro e wq ⟨rfl, hwq⟩; replace hwq := hwq.symm; subst hwq)
    go_ret
    exact ⟨rfl, HB6.out.2⟩
  | true =>
  rw [hE] at fE
  have HEL := Lib.hid hE
  clear hE
  have j0 := HB6.out.1.cell 0 _ rfl
  have j1 := HB6.out.1.cell 1 _ rfl
  have j2 := HB6.out.1.cell 2 _ rfl
  have j3 := HB6.out.1.cell 3 _ rfl
  have j4 := HB6.out.1.cell 4 _ rfl
  have j5 := HB6.out.1.cell 5 _ rfl
  have j6 := HB6.out.1.cell 6 _ rfl
  by_cases hk1 : y.kind = 1
  rotate_left
  · have q : (y.kind != 1) = true := by rw [bne, beq_eq_false_iff_ne.2 hk1]; rfl
    clear hk1
    go_wp2_with (go_at_call 18; (refine fE.mono ?_); rintro e wq ⟨rfl, hwq⟩; replace hwq := hwq.symm; subst hwq)
    go_ret
    exact ⟨rfl, HB6.out.2⟩
  have q1 : (y.kind != 1) = false := by rw [bne, beq_iff_eq.2 hk1]; rfl
  have HK1 := Lib.hid hk1
  clear hk1
  have fN := nodeOK y a1 n1 c1 a2 n2 c2 xs a n c w6 (HX.out w6 HB6.out.2) (HA.out w6 HB6.out.2) (HS.out w6 HB6.out.2) HZ.out.1 HZ.out.2.1 HZ.out.2.2
  cases hNo : nodeB xs y with
  | false =>
    rw [hNo] at fN
    clear hNo
    go_wp2_with (first
      | (go_at_call 18; (refine fE.mono ?_); rintro e wq ⟨rfl, hwq⟩; replace hwq := hwq.symm; subst hwq)
      | (go_at_call 19; (refine fN.mono ?_); rintro e w7 ⟨rfl, hb7⟩))
    go_ret
    exact ⟨rfl, bel_tr HB6.out.2 hb7⟩
  | true =>
  rw [hNo] at fN
  have HNO := Lib.hid hNo
  clear hNo
  go_wp2_with (first
    | (go_at_call 18; (refine fE.mono ?_); rintro e wq ⟨rfl, hwq⟩; replace hwq := hwq.symm; subst hwq)
    | (go_at_call 19; (refine fN.mono ?_); rintro e w7 ⟨rfl, hb7⟩))
  have B7 := HB6.out.1.later hb7 HB6.out.1.lt
  have hb07 := bel_tr HB6.out.2 hb7
  have HB7 := Lib.hid (And.intro B7 hb07)
  clear j0 j1 j2 j3 j4 j5 j6 hb7 fE fN B7 hb07
  obtain ⟨iN, hiN, hzN⟩ := Option.map_eq_some_iff.1 TryinfoNode
  simp only [Prod.mk.injEq] at hzN
  have HIN := Lib.hid (And.intro hiN hzN)
  obtain ⟨vs, hvl, hvo, hv⟩ := rdOf_vals w7 (HX.out w7 HB7.out.2) (by decide) (fun b o x h => nodeAt_cells h)
  have HVL := Lib.hid hvl
  have HVO := Lib.hid hvo
  have HV := Lib.hid hv
  have HNL := Lib.hid HX0.out.2.2.1.2.2
  have hnn : n ≤ 100 := by rw [HN.out]; exact HV1.out.1
  have D7 := HB7.out.1
  have i0 := D7.cell 0 _ rfl
  have i1 := D7.cell 1 _ rfl
  have i2 := D7.cell 2 _ rfl
  have i3 := D7.cell 3 _ rfl
  have i4 := D7.cell 4 _ rfl
  have i5 := D7.cell 5 _ rfl
  have i6 := D7.cell 6 _ rfl
  have D8 : Blk (w7.alloc (.cells #[] 44)) w.heap.size (ndL y a1 a2 n1 n2 c1 c2) 44 := D7.alloc_old _
  have k0 := D8.cell 0 _ rfl
  have k1 := D8.cell 1 _ rfl
  have k2 := D8.cell 2 _ rfl
  have k3 := D8.cell 3 _ rfl
  have k4 := D8.cell 4 _ rfl
  have k5 := D8.cell 5 _ rfl
  have k6 := D8.cell 6 _ rfl
  have hlt7 := HB7.out.1.lt
  have N2 : Hid (Blk ((w7.alloc (.cells #[] 44)).alloc (.cells #[.int .i64 y.par, .int .i64 y.kind, .string y.space, .string y.name, .slice a1 n1 c1, .slice a2 n2 c2, .string y.text] 44)).drew (w7.heap.size + 1) (ndL y a1 a2 n1 n2 c1 c2) 44) := Lib.hid (by have := Blk.alloc (w := w7.alloc (.cells #[] 44)) (ndL y a1 a2 n1 n2 c1 c2) 44; rwa [show (w7.alloc (.cells #[] 44)).heap.size = w7.heap.size + 1 from by simp] at this)
  have N3 : Hid (Blk ((w7.alloc (.cells #[.int .i64 y.par, .int .i64 y.kind, .string y.space, .string y.name, .slice a1 n1 c1, .slice a2 n2 c2, .string y.text] 44)).alloc (.cells #[] 44)).drew w7.heap.size (ndL y a1 a2 n1 n2 c1 c2) 44) := Lib.hid ((Blk.alloc (w := w7) (ndL y a1 a2 n1 n2 c1 c2) 44).alloc_old _)
  have b1 : Hid (Below w7.heap.size w7 (w7.alloc (.cells #[] 44)).drew) := Lib.hid (((Below.refl w7.heap.size w7).alloc (Nat.le_refl _) _).drew)
  have b2 : Hid (Below w7.heap.size w7 ((w7.alloc (.cells #[] 44)).alloc (.cells #[.int .i64 y.par, .int .i64 y.kind, .string y.space, .string y.name, .slice a1 n1 c1, .slice a2 n2 c2, .string y.text] 44)).drew) := Lib.hid ((((Below.refl w7.heap.size w7).alloc (Nat.le_refl _) _).alloc (by simp) _).drew)
  have b3 : Hid (Below w7.heap.size w7 ((w7.alloc (.cells #[.int .i64 y.par, .int .i64 y.kind, .string y.space, .string y.name, .slice a1 n1 c1, .slice a2 n2 c2, .string y.text] 44)).alloc (.cells #[] 44)).drew) := Lib.hid ((((Below.refl w7.heap.size w7).alloc (Nat.le_refl _) _).alloc (by simp) _).drew)
  have o1 : Hid ((w7.alloc (.cells #[] 44)).ownsRow w7.heap.size 44 7 (.slice (some ⟨w7.heap.size, 0, none⟩) 0 0) 0 []) := Lib.hid (owns_emptyN (base := w7.heap.size) 7 (heap_alloc_new w7 (.cells #[] 44)) (Nat.le_refl _))
  have o2 : Hid (((w7.alloc (.cells #[] 44)).alloc (.cells #[.int .i64 y.par, .int .i64 y.kind, .string y.space, .string y.name, .slice a1 n1 c1, .slice a2 n2 c2, .string y.text] 44)).ownsRow w7.heap.size 44 7 (.slice (some ⟨w7.heap.size, 0, none⟩) 0 0) 0 []) := Lib.hid (o1.out.alloc _)
  have o3 : Hid (((w7.alloc (.cells #[.int .i64 y.par, .int .i64 y.kind, .string y.space, .string y.name, .slice a1 n1 c1, .slice a2 n2 c2, .string y.text] 44)).alloc (.cells #[] 44)).ownsRow w7.heap.size 44 7 (.slice (some ⟨w7.heap.size + 1, 0, none⟩) 0 0) 0 []) := Lib.hid (owns_emptyN (base := w7.heap.size) 7 (by have := heap_alloc_new (w7.alloc (.cells #[.int .i64 y.par, .int .i64 y.kind, .string y.space, .string y.name, .slice a1 n1 c1, .slice a2 n2 c2, .string y.text] 44)) (.cells #[] 44); rwa [show (w7.alloc (.cells #[.int .i64 y.par, .int .i64 y.kind, .string y.space, .string y.name, .slice a1 n1 c1, .slice a2 n2 c2, .string y.text] 44)).heap.size = w7.heap.size + 1 from by simp] at this) (Nat.le_succ _))
  have HRR := Lib.hid (fun w' (hb : Below w7.heap.size w7 w') => (show n = 0 ∨ ∃ b off, a = some ⟨b, off, none⟩ ∧ ∀ (j : Nat) (u : Value), vs[j]? = some u → w'.cell? ⟨b, off + j, none⟩ = some u from hv.imp id (fun ⟨b, off, h1, h2, h3, _⟩ => ⟨b, off, h1, fun j u hu => (hb.cell (p := ⟨b, off + j, none⟩) h2).trans (h3 j u hu)⟩)))
  have hone2 : ∀ u ∈ (ndL y a1 a2 n1 n2 c1 c2), u.oneCell' = true := fun u hu => by
    unfold ndL at hu
    simp at hu
    rcases hu with rfl | rfl | rfl | rfl | rfl | rfl | rfl <;> rfl
  have HO2 := Lib.hid hone2
  clear hiN hzN hvl hvo hv D7 D8 hone2
  go_cut [9] from 54 to 59 (fun s9 wx => ∃ (a' : Option Addr) (c' : Nat), s9 = .slice a' (n + 1) c' ∧ RdN (· < wx.heap.size) wx a' (n + 1) c' (xs ++ [y]) ∧ Below w.heap.size w wx)
  case first =>
    go_region_law (first
      | (refine step_append_rows rfl _ _ 22 rfl w7.heap.size 44 iN _ 7 112 Try.underlying22 HIN.out.1 HIN.out.2.1 rfl (by decide) HIN.out.2.2.1 HIN.out.2.2.2 (.slice (some ⟨w7.heap.size, 0, none⟩) 0 0) 0 [] rfl a n c vs HVL.out rfl HVO.out HNL.out (by unfold maxLen; omega) (by omega) ?_ ?_ ?_ ?_
         · exact o1.out
         · exact HRR.out _ b1.out
         · exact b1.out.size
         intro v4 w8 hown4 hgr4
         have hgr5 : World.grownBy _ w8 (some (w7.heap.size)) := hgr4
         have O4 : w8.ownsRow w7.heap.size 44 7 v4 n vs := by simpa using hown4
         have hb8 : Below w7.heap.size w7 w8 := b1.out.grown hgr5 b1.out.size (fun k hk => by cases hk; exact Nat.le_refl _)
         have D9 := HB7.out.1.later hb8 HB7.out.1.lt
         have l0 := D9.cell 0 _ rfl
         have l1 := D9.cell 1 _ rfl
         have l2 := D9.cell 2 _ rfl
         have l3 := D9.cell 3 _ rfl
         have l4 := D9.cell 4 _ rfl
         have l5 := D9.cell 5 _ rfl
         have l6 := D9.cell 6 _ rfl)
      | (refine step_append_rows rfl _ _ 22 rfl w7.heap.size 44 iN _ 7 112 Try.underlying22 HIN.out.1 HIN.out.2.1 rfl (by decide) HIN.out.2.2.1 HIN.out.2.2.2 (.slice (some ⟨w7.heap.size, 0, none⟩) 0 0) 0 [] rfl a n c vs HVL.out rfl HVO.out HNL.out (by unfold maxLen; omega) (by omega) ?_ ?_ ?_ ?_
         · exact o2.out
         · exact HRR.out _ b2.out
         · exact b2.out.size
         intro v4 w8 hown4 hgr4
         have hgr5 : World.grownBy _ w8 (some (w7.heap.size)) := hgr4
         have O4 : w8.ownsRow w7.heap.size 44 7 v4 n vs := by simpa using hown4
         have hb8 : Below w7.heap.size w7 w8 := b2.out.grown hgr5 b2.out.size (fun k hk => by cases hk; exact Nat.le_refl _)
         have N8 : Blk w8 (w7.heap.size + 1) (ndL y a1 a2 n1 n2 c1 c2) 44 := Blk.kept N2.out hgr5 (by intro h; have := Option.some.inj h; omega)
         have D9 := HB7.out.1.later hb8 HB7.out.1.lt
         have l0 := D9.cell 0 _ rfl
         have l1 := D9.cell 1 _ rfl
         have l2 := D9.cell 2 _ rfl
         have l3 := D9.cell 3 _ rfl
         have l4 := D9.cell 4 _ rfl
         have l5 := D9.cell 5 _ rfl
         have l6 := D9.cell 6 _ rfl)
      | (refine step_append_rows rfl _ _ 22 rfl w7.heap.size 44 iN _ 7 112 Try.underlying22 HIN.out.1 HIN.out.2.1 rfl (by decide) HIN.out.2.2.1 HIN.out.2.2.2 (.slice (some ⟨w7.heap.size + 1, 0, none⟩) 0 0) 0 [] rfl a n c vs HVL.out rfl HVO.out HNL.out (by unfold maxLen; omega) (by omega) ?_ ?_ ?_ ?_
         · exact o3.out
         · exact HRR.out _ b3.out
         · exact b3.out.size
         intro v4 w8 hown4 hgr4
         have hgr5 : World.grownBy _ w8 (some (w7.heap.size + 1)) := hgr4
         have O4 : w8.ownsRow w7.heap.size 44 7 v4 n vs := by simpa using hown4
         have hb8 : Below w7.heap.size w7 w8 := b3.out.grown hgr5 b3.out.size (fun k hk => by cases hk; exact Nat.le_succ _)
         have N8 : Blk w8 w7.heap.size (ndL y a1 a2 n1 n2 c1 c2) 44 := Blk.kept N3.out hgr5 (by intro h; have := Option.some.inj h; omega)
         have D9 := HB7.out.1.later hb8 HB7.out.1.lt
         have l0 := D9.cell 0 _ rfl
         have l1 := D9.cell 1 _ rfl
         have l2 := D9.cell 2 _ rfl
         have l3 := D9.cell 3 _ rfl
         have l4 := D9.cell 4 _ rfl
         have l5 := D9.cell 5 _ rfl
         have l6 := D9.cell 6 _ rfl)
      | (refine step_append_rows rfl _ _ 22 rfl w7.heap.size 44 iN _ 7 112 Try.underlying22 HIN.out.1 HIN.out.2.1 rfl (by decide) HIN.out.2.2.1 HIN.out.2.2.2 _ n vs rfl _ 1 1 (ndL y a1 a2 n1 n2 c1 c2) rfl rfl HO2.out (fun h => by cases h) (by unfold maxLen; omega) (by omega) ?_ ?_ ?_ ?_
         · first | exact O4 | exact O4.alloc _
         · first
             | exact .inr ⟨_, 0, rfl, fun j u hu => by rw [Nat.zero_add]; exact (Blk.alloc (w := w8) (ndL y a1 a2 n1 n2 c1 c2) 44).cell j u hu⟩
             | exact .inr ⟨_, 0, rfl, fun j u hu => by rw [Nat.zero_add]; exact N8.cell j u hu⟩
         · first | exact hb8.size | exact (hb8.alloc hb8.size _).size
         intro v6 w9 hown6 hgr6
         have hb9 : Below w7.heap.size w7 w9 := by
           first
             | exact hb8.grown hgr6 hb8.size (fun k hk => own_base O4 k hk)
             | exact (hb8.alloc hb8.size _).grown hgr6 (hb8.alloc hb8.size _).size (fun k hk => own_base O4 k hk)))
    all_goals
      obtain ⟨a', c', rfl, hrd⟩ := grown_rd (HX.out w7 HB7.out.2) (by omega) HVL.out HV.out (HA.out w7 HB7.out.2) (HS.out w7 HB7.out.2) HZ.out hb9 hown6
      go_wp2_with fail
      go_meet
      exact ⟨a', c', rfl, hrd, bel_tr HB7.out.2 hb9⟩
  case rest =>
    obtain ⟨a', c', rfl, hrd, hbc⟩ := hcut
    have hpp : 0 ≤ y.par := by
      have := HEL.out
      unfold elemB at this
      rcases atI_cases xs y.par with ⟨k, x, h, _⟩ | ⟨h, _⟩
      · omega
      · rw [h] at this; cases this
    have HRM : Hid (RightD (xs ++ [y])) := Lib.hid (rightD_snoc HD.out HNO.out hpp)
    have HMM : Hid (∀ x ∈ xs ++ [y], MilN x) := Lib.hid (fun x hx => by
      rcases List.mem_append.1 hx with h | h
      · exact mil_of_sm (HV1.out.2 x h)
      · rw [List.mem_singleton.1 h]; exact mil_of_sm (HV2.out.2 y (List.mem_singleton.2 rfl)))
    have hlm : (xs ++ [y]).length = n + 1 := by rw [List.length_append, HN.out]; rfl
    have HTL : Hid (parI (xs ++ [y]) (n : Int) = y.par ∧ elemB (xs ++ [y]) (n : Int) = true ∧ ((aheadI (xs ++ [y]) (n : Int) = -1 ∧ rowI (xs ++ [y]) (n : Int) = [n]) ∨ (∃ (j : Nat) (zs : List Nat), j < n ∧ aheadI (xs ++ [y]) (n : Int) = (j : Int) ∧ rowI (xs ++ [y]) (j : Int) = zs ++ [j] ∧ rowI (xs ++ [y]) (n : Int) = zs ++ [j] ++ [n]))) := Lib.hid (by
      rw [HN.out]
      exact grown_tells HRM.out HK1.out (by omega))
    have fN := new_any (xs ++ [y]) a' (n + 1) c' wc hrd (by omega) (fun x hx => by have := HMM.out x hx; exact ⟨this.2.2.2.2.1, this.2.2.2.2.2⟩) (fun k x hx _ => by
        have hk := (List.getElem?_eq_some_iff.1 hx).1
        rcases (rightP_of HRM.out).par k x hx with h | h
        · exact .inl h
        · exact .inr ⟨h.1, by rw [hlm] at hk; omega⟩) (check_any (xs ++ [y]) a' (n + 1) c' wc hrd HMM.out (by omega) HRM.out)
    have HBC := Lib.hid hbc
    clear hrd hbc hlm i0 i1 i2 i3 i4 i5 i6 k0 k1 k2 k3 k4 k5 k6 hlt7 q1
    go_wp2_with fail
    refine fN.mono ?_
    rintro e8 w8 ⟨t, b, r, rfl, hT, hb8⟩
    have HT8 := Lib.hid hT
    have hb08 := bel_tr HBC.out hb8
    have HB8 := Lib.hid hb08
    clear fN hT hb8 hb08
    have f1 := parent_any HT8.out (n : Int)
    rw [HTL.out.1] at f1
    unfold tupV at f1
    rw [if_neg (by omega)] at f1
    go_wp2_with fail
    refine f1.mono ?_
    rintro e9 w9 ⟨rfl, hb9⟩
    have HT9 := Lib.hid (HT8.out.later hb9)
    have HB9 := Lib.hid (bel_tr HB8.out hb9)
    clear f1 hb9
    have f2 := row_any HT9.out (rightP_of HRM.out) (by omega) (n : Int)
    rcases HTL.out.2.2 with ⟨hA, hRw⟩ | ⟨j, zs, hj, hA, hRj, hRw⟩
    · rw [hRw] at f2
      go_wp2_with fail
      refine f2.mono ?_
      rintro e10 w10 ⟨ar, cr, rfl, hrr, hb10⟩
      have HTa := Lib.hid (HT9.out.later hb10)
      have HBa := Lib.hid (bel_tr HB9.out hb10)
      have f3 := ahead_any HTa.out (n : Int)
      rw [hA, tupV_none] at f3
      have HRR2 := Lib.hid hrr
      clear f2 hb10 hA hRw hrr
      go_wp2_with fail
      refine f3.mono ?_
      rintro e11 w11 ⟨rfl, hb11⟩
      have HBb := Lib.hid (bel_tr HBa.out hb11)
      obtain ⟨hc1, hc2, hrow⟩ := HRR2.out.later hb11
      obtain ⟨gr, offr, rfl, hat1⟩ := hrow.resolve_left (by simp)
      have r0 := hat1.2 0 (by simp)
      simp at r0
      clear f3 hb11 hrow hc1 hc2 hat1
      go_wp2
      go_quiet (fail)
      go_wp2
      go_ret
      exact ⟨rfl, below_drewN HBb.out _⟩
    · obtain ⟨m, hm⟩ : ∃ m, m = zs.length := ⟨_, rfl⟩
      have hl2 : (zs ++ [j] ++ [n]).length = m + 2 := by simp [hm]
      have hl1 : Hid ((zs ++ [j]).length = m + 1) := Lib.hid (by simp [hm])
      have HM := Lib.hid hm
      rw [hRw] at f2
      unfold RowP at f2
      rw [hl2] at f2
      have hmn : m + 2 ≤ n + 1 := by
        have h1 := desc_len (xs ++ [y]) y.par (n + 1)
        have h2 : (rowI (xs ++ [y]) (n : Int)).length ≤ n + 1 := by
          unfold rowI
          rw [HTL.out.2.1, if_pos rfl, Int.toNat_natCast]
          unfold rowF
          have : (xs ++ [y])[n]? = some y := by rw [HN.out]; exact snoc_at
          rw [this]
          simp only
          rw [if_pos HK1.out, List.length_reverse]
          exact h1
        rw [hRw, hl2] at h2
        exact h2
      clear hl2 hm
      go_wp2_with fail
      refine f2.mono ?_
      rintro e10 w10 ⟨ar, cr, rfl, hrr, hb10⟩
      have HTa := Lib.hid (HT9.out.later hb10)
      have HBa := Lib.hid (bel_tr HB9.out hb10)
      have f3 := ahead_any HTa.out (n : Int)
      rw [hA] at f3
      unfold tupV at f3
      rw [if_neg (by omega)] at f3
      have HRR2 := Lib.hid hrr
      have HRJ := Lib.hid hRj
      clear f2 hb10 hA hRw hRj hrr
      go_wp2_with fail
      refine f3.mono ?_
      rintro e11 w11 ⟨rfl, hb11⟩
      have HBb := Lib.hid (bel_tr HBa.out hb11)
      have HTb := Lib.hid (HTa.out.later hb11)
      obtain ⟨hc1, hc2, hrow⟩ := HRR2.out.later hb11
      have hle : m + 2 ≤ cr := by simp at hc1; rw [← HM.out] at hc1; omega
      obtain ⟨gr, offr, rfl, hat⟩ := hrow.resolve_left (by simp)
      have hgl := hat.1
      have r1 := hat.2 (m + 1) (by simp; rw [← HM.out]; omega)
      have r2 := hat.2 m (by simp; rw [← HM.out]; omega)
      have e1 : ((zs ++ [j] ++ [n]).map fun j : Nat => (j : Int))[m + 1]?.getD 0 = (n : Int) := by rw [HM.out]; simp
      have e2 : ((zs ++ [j] ++ [n]).map fun j : Nat => (j : Int))[m]?.getD 0 = (j : Int) := by rw [HM.out]; simp
      rw [e1] at r1
      rw [e2] at r2
      have HAT := Lib.hid hat
      have HC2 := Lib.hid (And.intro hc1 hc2)
      have hcm : cr ≤ 9223372036854775807 := hc2
      have HR2 := Lib.hid (And.intro hgl r2)
      have hjI : (0 : Int) ≤ (j : Int) := by omega
      clear f3 hb11 hrow hc1 hc2 e1 e2 hat
      have f4 := row_any (TreeAt.later HTb.out (show Below w11.heap.size w11 w11.drew from (Below.refl _ _).drew)) (rightP_of HRM.out) (by omega) (j : Int)
      rw [HRJ.out] at f4
      unfold RowP at f4
      rw [hl1.out] at f4
      have q3 : ((m : Int) + 2 == 0) = false := beq_eq_false_iff_ne.mpr (by omega)
      have q4 : (!decide ((1 : Int) < (m : Int) + 2)) = false := by
        have : (1 : Int) < (m : Int) + 2 := by omega
        simp [this]
      have wm : IntKind.i64.wrap (m : Int) = m := by rw [IntWalk.i64_in _ (by omega)]
      have wm2 : IntKind.i64.wrap ((m : Int) + 2 - 2) = m := by rw [IntWalk.i64_in _ (by omega)]; omega
      have wm3 : IntKind.i64.wrap ((m : Int) + 2 - 1) = m + 1 := by rw [IntWalk.i64_in _ (by omega)]; omega
      have wm4 : IntKind.i64.wrap ((m : Int) + 1) = m + 1 := by rw [IntWalk.i64_in _ (by omega)]
      have qc : (0 : Int) ≤ (m : Int) ∧ (m : Int) < (m : Int) + 2 := by omega
      have qd : (0 : Int) ≤ (m : Int) := by omega
      have qe : (m : Int) < (m : Int) + 2 := by omega
      have qf : (0 : Int) ≤ (m : Int) + 1 ∧ (m : Int) + 1 ≤ (cr : Int) := by omega
      have qg : (0 : Int) ≤ (m : Int) + 1 := by omega
      have qh : (m : Int) + 1 ≤ (cr : Int) := by omega
      go_wp2
      have r3 : w11.drew.cell? ⟨gr, offr + m, none⟩ = some (.int .i64 (j : Int)) := r2
      go_region_held3 (fun w' => w'.cell? ⟨gr, offr + m, none⟩ = some (.int .i64 (j : Int))) (first | exact r3 | exact r4 | exact r5) (first
        | ((go_at_call 21); (refine f4.mono ?_); rintro e w12 ⟨a12, c12, rfl, hr12, hb12⟩; have r4 := (hb12.cell (p := ⟨gr, offr + m, none⟩) HR2.out.1).trans r3; have fS := same_any a12 (some ⟨gr, offr, none⟩) c12 cr ((zs ++ [j]).map fun j : Nat => (j : Int)) ((zs ++ [j]).map fun j : Nat => (j : Int)) w12 hr12 ⟨by simp; rw [← HM.out]; omega, HC2.out.2, .inr ⟨gr, offr, rfl, Nat.lt_of_lt_of_le HR2.out.1 hb12.size, fun i hi => by
            have h1 := HAT.out.2 i (by simp at hi ⊢; omega)
            have h2 : ((zs ++ [j] ++ [n]).map fun j : Nat => (j : Int))[i]? = ((zs ++ [j]).map fun j : Nat => (j : Int))[i]? := by
              rw [List.map_append, List.getElem?_append_left hi]
            rw [h2] at h1
            exact (hb12.cell (p := ⟨gr, offr + i, none⟩) HR2.out.1).trans h1⟩⟩; rw [List.length_map, hl1.out, decide_eq_true rfl] at fS)
        | ((go_at_call 15); (refine fS.mono ?_); rintro e w13 ⟨rfl, hb13⟩; have r5 := (hb13.cell (p := ⟨gr, offr + m, none⟩) (Nat.lt_of_lt_of_le HR2.out.1 hb12.size)).trans r4))
      all_goals (try go_wp2)
      all_goals go_ret
      all_goals exact ⟨rfl, bel_tr HBb.out (((Below.refl w11.heap.size w11).drew.trans hb12).trans (hb13.mono (((Below.refl w11.heap.size w11).drew.trans hb12).size)))⟩
end
end Go.Proofs.Ytknggcbhfkbelaa
