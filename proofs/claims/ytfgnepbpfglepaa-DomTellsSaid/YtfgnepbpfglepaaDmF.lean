/- Documents that came in: what their reading as data says of memory. -/
import Derived.Test.YtfgnepbpfglepaaDm0
import Derived.OpenShut
import Derived.Deep.Slices
import Derived.SizedLaws
import Derived.ChangeArms
namespace Go.Proofs.Ytfgnepbpfglepaa
open Go.RowKit Go.Deep

/-- No part of a datum is greater than what comes in may be. -/
def Wt {H : Type} (P : Program) (t : TypeId) (d : DataW H) : Prop := ∀ n ∈ d.weights P t, n ≤ reachBytes
theorem Wt.agg {H : Type} {P : Program} {t : TypeId} {fs : Array Field} {xs : List (DataW H × List MemPlace)} (ht : P.underlying t = some (.struct fs)) (h : Wt P t (.agg (xs.map (·.1)))) (i : Nat) (f : Field) (x : DataW H × List MemPlace) (hf : fs[i]? = some f) (hx : xs[i]? = some x) : Wt P f.type x.1 :=
  fun n hn => h n (by
    simp only [DataW.weights, ht]
    exact DataW.weights_mem_each (j := i) (by rw [List.getElem?_map, Array.getElem?_toList, hf]; rfl) (by rw [List.getElem?_map, hx]; rfl) n hn)
theorem weights_all {H : Type} {P : Program} {e : TypeId} : ∀ {ds : List (DataW H)} {d : DataW H}, d ∈ ds → ∀ n ∈ d.weights P e, n ∈ DataW.weightsAll P e ds
  | d0 :: ds, d, hd, n, hn => by
    simp only [DataW.weightsAll, List.mem_append]
    rcases List.mem_cons.1 hd with rfl | h
    · exact .inl hn
    · exact .inr (weights_all h n hn)
theorem Wt.slice {H : Type} {P : Program} {t e : TypeId} {es rs : List (DataW H)} (ht : P.underlying t = some (.slice e)) (h : Wt P t (.slice es rs)) : (es.length + rs.length) * P.bytesOf e ≤ reachBytes ∧ ∀ d ∈ es, Wt P e d :=
  ⟨h _ (by simp [DataW.weights, ht]), fun d hd n hn => h n (by
    simp only [DataW.weights, ht, List.mem_cons, List.mem_append]
    exact .inr (.inl (weights_all hd n hn)))⟩

theorem addA (b o n : Nat) : (⟨b, o, none⟩ : Addr).add n = ⟨b, o + n, none⟩ := by simp [Addr.add]
/-- A slice that came in: its parts, each of which reads as something. -/
theorem rdOf_of_trod {H : Type} {enc : TypeId × Value → H} {P : Program} {W : World} {base : Nat} {spare : Nat → Bool} {held : Bool} {α : Type} {t e : TypeId} {fuel : Nat} {cs : List Value} {x : DataW H × List MemPlace} (sz : Nat)
    (ht : P.underlying t = some (.slice e)) (hsz : P.cellsOf e = sz) (hpos : 0 < sz) (hB : 1 ≤ P.bytesOf e) (Pred : Nat → Nat → α → Prop)
    (hel : ∀ (f' : Nat) (cs' : List Value) (x' : DataW H × List MemPlace) (b o : Nat), f' < fuel → DataW.trod enc P W base spare held f' e cs' = some x' → Wt P e x'.1 → (∀ j u, cs'[j]? = some u → W.cell? ⟨b, o + j, none⟩ = some u) → ∃ y : α, Pred b o y)
    (h : DataW.trod enc P W base spare held fuel t cs = some x) (hw : Wt P t x.1) :
    ∃ a n c, cs = [.slice a n c] ∧ ∃ ys : List α, RdOf (· < W.heap.size) sz Pred a n c ys := by
  rcases DataW.trod_slice ht h with ⟨rfl, _⟩ | ⟨a, len, cap, elems, rest, n, hfu, rfl, rfl, hb, hl, hm, hlen, hel', _, _⟩
  · exact ⟨none, 0, 0, rfl, [], rfl, Nat.le_refl _, ⟨Nat.zero_le _, Nat.zero_le _, fun _ => rfl⟩, .inl rfl⟩
  · refine ⟨some a, len, cap, rfl, ?_⟩
    obtain ⟨hwl, hwe⟩ := Wt.slice ht hw
    rw [List.length_map, hlen] at hwl
    have hlb : len ≤ 140737488351232 := by
      have h1 : len ≤ (len + (rest.map (·.1)).length) * P.bytesOf e := Nat.le_trans (Nat.le_add_right _ _) (Nat.le_mul_of_pos_right _ hB)
      have h2 := Nat.le_trans h1 hwl
      exact h2
    rcases Nat.eq_zero_or_pos len with h0 | hlp
    · subst h0
      exact ⟨[], rfl, hl, ⟨hm, hlb, fun h => by cases h⟩, .inl rfl⟩
    · have hc : ∀ i, i < len → ∃ cs' x', W.cells? base (a.add (i * sz)) sz = some cs' ∧ DataW.trod enc P W base spare held n e cs' = some x' ∧ Wt P e x'.1 := fun i hi => by
        have hk := hel' i hi
        rw [List.getElem?_eq_getElem (by rw [hlen]; exact hi), hsz] at hk
        obtain ⟨cs', h1, h2⟩ := Option.bind_eq_some_iff.1 hk
        exact ⟨cs', _, h1, h2, hwe _ (List.mem_map_of_mem (List.getElem_mem _))⟩
      obtain ⟨b, off, spot⟩ := a
      have hspot : spot = none ∧ b < W.heap.size := by
        obtain ⟨cs', x', h1, _, _⟩ := hc 0 hlp
        obtain ⟨_, h2, h3⟩ := World.cells?_some h1
        have h4 := h3 0 hpos
        rw [List.getElem?_eq_getElem (by rw [h2]; exact hpos)] at h4
        have h5 := World.cell?_spot h4
        simp [Addr.add] at h5
        subst h5
        rw [addA, addA] at h4
        exact ⟨rfl, World.block_lt_of_cell? W _ h4⟩
      obtain ⟨rfl, hbl⟩ := hspot
      have hy : ∀ i : Nat, ∃ y : Option α, i < len → ∃ z, y = some z ∧ Pred b (off + i * sz) z := fun i => by
        by_cases hi : i < len
        · obtain ⟨cs', x', h1, h2, h3⟩ := hc i hi
          obtain ⟨_, h4, h5⟩ := World.cells?_some h1
          obtain ⟨y, hy⟩ := hel n cs' x' b (off + i * sz) (by omega) h2 h3 (fun j u hu => by
            have hj : j < sz := by rw [← h4]; exact (List.getElem?_eq_some_iff.1 hu).1
            have := h5 j hj
            rw [hu] at this
            rwa [addA, addA] at this)
          exact ⟨some y, fun _ => ⟨y, rfl, hy⟩⟩
        · exact ⟨none, fun h => absurd h hi⟩
      obtain ⟨f, hf⟩ := Classical.axiomOfChoice hy
      obtain ⟨z0, hz0, _⟩ := hf 0 hlp
      refine ⟨(List.range len).map fun i => (f i).getD z0, by simp, hl, ⟨hm, hlb, fun h => by cases h⟩, .inr ⟨b, off, rfl, hbl, fun i y hy => ?_⟩⟩
      have hi : i < len := by simpa using (List.getElem?_eq_some_iff.1 hy).1
      rw [List.getElem?_map, List.getElem?_range hi] at hy
      obtain ⟨z, h1, h2⟩ := hf i hi
      simp only [Option.map_some, Option.some.injEq, h1, Option.getD_some] at hy
      subst hy
      exact h2


theorem TrycellsNd : Try.prog.cellsOf 44 = 7 := by kernel_rfl
theorem TrycellsAt : Try.prog.cellsOf 56 = 3 := by kernel_rfl
theorem TrycellsIn : Try.prog.cellsOf 3 = 1 := by kernel_rfl
theorem TrycellsSt : Try.prog.cellsOf 9 = 1 := by kernel_rfl
theorem TrycellsLA : Try.prog.cellsOf 41 = 1 := by kernel_rfl
theorem TrycellsLS : Try.prog.cellsOf 42 = 1 := by kernel_rfl
theorem TrybytesNd : 1 ≤ Try.prog.bytesOf 44 := of_decide_eq_true (by kernel_rfl)
theorem TrybytesAt : 1 ≤ Try.prog.bytesOf 56 := of_decide_eq_true (by kernel_rfl)
theorem TrybytesSt : 1 ≤ Try.prog.bytesOf 9 := of_decide_eq_true (by kernel_rfl)
theorem wt_string {H : Type} {P : Program} {t : TypeId} {bs : List UInt8} (h : Wt (H := H) P t (.lit (.string bs))) : bs.length ≤ 140737488351232 := h _ (by simp [DataW.weights])
theorem wt_str {H : Type} {P : Program} {t : TypeId} {s : ByteArray} {d : DataW H × List MemPlace} (e : d = (.lit (.string s.data.toList), [])) (h : Wt (H := H) P t d.1) : s.size ≤ 140737488351232 := by
  rw [e] at h; have := wt_string h; rwa [Array.length_toList] at this
def i64B (q : Int) : Prop := -9223372036854775808 ≤ q ∧ q ≤ 9223372036854775807
theorem wf_i64B {q : Int} (h : (Lit.int .i64 q).wf = true) : i64B q := by
  have e1 : IntKind.i64.min = -9223372036854775808 := rfl
  have e2 : IntKind.i64.max = 9223372036854775807 := rfl
  simp only [Lit.wf, Bool.and_eq_true, decide_eq_true_eq] at h
  unfold i64B
  omega
/-- A document that came in: its numbers are of their kind. -/
def NdB (x : Nd) : Prop := i64B x.par ∧ i64B x.kind
set_option maxRecDepth 100000 in
set_option maxHeartbeats 2000000 in
theorem nd_of_trod {H : Type} {enc : TypeId × Value → H} {W : World} {base : Nat} {spare : Nat → Bool} {held : Bool} (f1 : Nat) (cs1 : List Value) (x1 : DataW H × List MemPlace) (b o : Nat) (h1 : DataW.trod enc Try.prog W base spare held f1 44 cs1 = some x1) (w1 : Wt Try.prog 44 x1.1)
    (hc1 : ∀ j u, cs1[j]? = some u → W.cell? ⟨b, o + j, none⟩ = some u) : ∃ y : Nd, NodeAt (· < W.heap.size) W b o y ∧ NdB y ∧ ∃ a n c a' n' c', cs1 = [.int .i64 y.par, .int .i64 y.kind, .string y.space, .string y.name, .slice a n c, .slice a' n' c', .string y.text] ∧ RdA (· < W.heap.size) W a n c y.attrs ∧ RdS (· < W.heap.size) W a' n' c' y.states := by
  obtain ⟨xs1, n1, hn1, hx1, hl1, hxl1, hff1⟩ := DataW.trod_struct Try.underlying44 h1
  match xs1, hxl1, cs1, hl1 with
  | [y0, y1, y2, y3, y4, y5, y6], _, [u0, u1, u2, u3, u4, u5, u6], _ =>
    have g0 := hff1 0 _ rfl
    have g1 := hff1 1 _ rfl
    have g2 := hff1 2 _ rfl
    have g3 := hff1 3 _ rfl
    have g4 := hff1 4 _ rfl
    have g5 := hff1 5 _ rfl
    have g6 := hff1 6 _ rfl
    simp [TrycellsIn, TrycellsSt, TrycellsLA, TrycellsLS] at g0 g1 g2 g3 g4 g5 g6
    have hag : Wt Try.prog 44 (.agg (([y0, y1, y2, y3, y4, y5, y6] : List (DataW H × List MemPlace)).map (·.1))) := by rw [hx1] at w1; exact w1
    have wv2 := Wt.agg Try.underlying44 hag 2 _ y2 rfl rfl
    have wv3 := Wt.agg Try.underlying44 hag 3 _ y3 rfl rfl
    have wv4 : Wt Try.prog 41 y4.1 := Wt.agg Try.underlying44 hag 4 _ y4 rfl rfl
    have wv5 : Wt Try.prog 42 y5.1 := Wt.agg Try.underlying44 hag 5 _ y5 rfl rfl
    have wv6 := Wt.agg Try.underlying44 hag 6 _ y6 rfl rfl
    obtain ⟨q0, d0, _, b0⟩ := DataW.trod_int Try.underlying3 g0
    obtain ⟨q1, d1, _, b1⟩ := DataW.trod_int Try.underlying3 g1
    obtain ⟨q2, d2, v2, _⟩ := DataW.trod_string Try.underlying9 g2
    obtain ⟨q3, d3, v3, _⟩ := DataW.trod_string Try.underlying9 g3
    obtain ⟨q6, d6, v6, _⟩ := DataW.trod_string Try.underlying9 g6
    obtain ⟨a4, m4, c4, e4, z4, r4⟩ := rdOf_of_trod 3 Try.underlying41 TrycellsAt (by decide) TrybytesAt (AttrAt W) (fun f2 cs2 x2 b o hf2 h2 w2 hc2 => by
      obtain ⟨xs2, n2, hn2, hx2, hl2, hxl2, hff2⟩ := DataW.trod_struct Try.underlying56 h2
      match xs2, hxl2, cs2, hl2 with
      | [y0, y1, y2], _, [u0, u1, u2], _ =>
        have g0 := hff2 0 _ rfl
        have g1 := hff2 1 _ rfl
        have g2 := hff2 2 _ rfl
        simp [TrycellsSt] at g0 g1 g2
        have hag2 : Wt Try.prog 56 (.agg (([y0, y1, y2] : List (DataW H × List MemPlace)).map (·.1))) := by rw [hx2] at w2; exact w2
        have wu0 := Wt.agg Try.underlying56 hag2 0 _ y0 rfl rfl
        have wu1 := Wt.agg Try.underlying56 hag2 1 _ y1 rfl rfl
        have wu2 := Wt.agg Try.underlying56 hag2 2 _ y2 rfl rfl
        obtain ⟨p0, k0, j0, _⟩ := DataW.trod_string Try.underlying9 g0
        obtain ⟨p1, k1, j1, _⟩ := DataW.trod_string Try.underlying9 g1
        obtain ⟨p2, k2, j2, _⟩ := DataW.trod_string Try.underlying9 g2
        simp at k0 k1 k2
        subst k0 k1 k2
        exact ⟨⟨p0, p1, p2⟩, hc2 0 _ rfl, hc2 1 _ rfl, hc2 2 _ rfl, wt_str j0 wu0, wt_str j1 wu1, wt_str j2 wu2⟩) g4 wv4
    obtain ⟨a5, m5, c5, e5, z5, r5⟩ := rdOf_of_trod 1 Try.underlying42 TrycellsSt (by decide) TrybytesSt (StrAt W) (fun f2 cs2 x2 b o hf2 h2 w2 hc2 => by
      obtain ⟨p, k, j, _⟩ := DataW.trod_string Try.underlying9 h2
      subst k
      exact ⟨p, hc2 0 _ rfl, wt_str j w2⟩) g5 wv5
    simp at d0 d1 d2 d3 d6 e4 e5
    subst d0 d1 d2 d3 d6 e4 e5
    exact ⟨⟨q0, q1, q2, q3, z4, z5, q6⟩, ⟨hc1 0 _ rfl, hc1 1 _ rfl, hc1 2 _ rfl, hc1 3 _ rfl, ⟨a4, m4, c4, hc1 4 _ rfl, r4⟩, ⟨a5, m5, c5, hc1 5 _ rfl, r5⟩, hc1 6 _ rfl, wt_str v2 wv2, wt_str v3 wv3, wt_str v6 wv6⟩, ⟨wf_i64B b0, wf_i64B b1⟩, a4, m4, c4, a5, m5, c5, rfl, r4, r5⟩
theorem rdN_of_trod {H : Type} {enc : TypeId × Value → H} {W : World} {base : Nat} {spare : Nat → Bool} {held : Bool} (fuel : Nat) (cs : List Value) (x : DataW H × List MemPlace) (h : DataW.trod enc Try.prog W base spare held fuel 22 cs = some x) (hw : Wt Try.prog 22 x.1) :
    ∃ a n c, cs = [.slice a n c] ∧ ∃ z : List Nd, RdN (· < W.heap.size) W a n c z ∧ ∀ y ∈ z, NdB y := by
  obtain ⟨a, n, c, he, ys, hy⟩ := rdOf_of_trod 7 Try.underlying22 TrycellsNd (by decide) TrybytesNd (fun b o (y : Nd) => NodeAt (· < W.heap.size) W b o y ∧ NdB y) (fun f1 cs1 x1 b o _ h1 w1 hc1 => by
    obtain ⟨y, h1, h2, _⟩ := nd_of_trod f1 cs1 x1 b o h1 w1 hc1
    exact ⟨y, h1, h2⟩) h hw
  refine ⟨a, n, c, he, ys, RdOf.imp hy (fun _ h => h) (fun _ _ _ _ h => h.1), fun y hy' => ?_⟩
  obtain ⟨i, hi, rfl⟩ := List.getElem_of_mem hy'
  obtain ⟨_, _, _, _, h⟩ := hy.at i _ (List.getElem?_eq_getElem hi)
  exact h.2
end Go.Proofs.Ytfgnepbpfglepaa
