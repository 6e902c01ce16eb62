/- Lists of selectors that came in: what their reading as data says of memory. -/
import Derived.Test.YtfgnepbpfglepaaSl0
import Derived.OpenShut
import Derived.Deep.Slices
import Derived.SizedLaws
import Derived.ChangeArms
namespace Go.Proofs.Ytfgnepbpfglepaa
open Go.RowKit Go.Deep

/-- No part of a datum is greater than what comes in may be. -/
def Wt {H : Type} (P : Program) (t : TypeId) (d : DataW H) : Prop := ∀ n ∈ d.weights P t, n ≤ reachBytes
theorem Wt.agg {H : Type} {P : Program} {t : TypeId} {fs : Array Field} {xs : List (DataW H × List MemPlace)} (ht : P.underlying t = some (.struct fs)) (h : Wt P t (.agg (xs.map (·.1)))) (i : Nat) (f : Field) (x : DataW H × List MemPlace) (hf : fs[i]? = some f) (hx : xs[i]? = some x) : Wt P f.type x.1 :=
  fun n hn => h n (by
    simp only [DataW.weights, ht]
    exact DataW.weights_mem_each (j := i) (by rw [List.getElem?_map, Array.getElem?_toList, hf]; rfl) (by rw [List.getElem?_map, hx]; rfl) n hn)
theorem weights_all {H : Type} {P : Program} {e : TypeId} : ∀ {ds : List (DataW H)} {d : DataW H}, d ∈ ds → ∀ n ∈ d.weights P e, n ∈ DataW.weightsAll P e ds
  | d0 :: ds, d, hd, n, hn => by
    simp only [DataW.weightsAll, List.mem_append]
    rcases List.mem_cons.1 hd with rfl | h
    · exact .inl hn
    · exact .inr (weights_all h n hn)
theorem Wt.slice {H : Type} {P : Program} {t e : TypeId} {es rs : List (DataW H)} (ht : P.underlying t = some (.slice e)) (h : Wt P t (.slice es rs)) : (es.length + rs.length) * P.bytesOf e ≤ reachBytes ∧ ∀ d ∈ es, Wt P e d :=
  ⟨h _ (by simp [DataW.weights, ht]), fun d hd n hn => h n (by
    simp only [DataW.weights, ht, List.mem_cons, List.mem_append]
    exact .inr (.inl (weights_all hd n hn)))⟩

theorem addA (b o n : Nat) : (⟨b, o, none⟩ : Addr).add n = ⟨b, o + n, none⟩ := by simp [Addr.add]
/-- A slice that came in: its parts, each of which reads as something. -/
theorem rdOf_of_trod {H : Type} {enc : TypeId × Value → H} {P : Program} {W : World} {base : Nat} {spare : Nat → Bool} {held : Bool} {α : Type} {t e : TypeId} {fuel : Nat} {cs : List Value} {x : DataW H × List MemPlace} (sz : Nat)
    (ht : P.underlying t = some (.slice e)) (hsz : P.cellsOf e = sz) (hpos : 0 < sz) (hB : 1 ≤ P.bytesOf e) (Pred : Nat → Nat → α → Prop)
    (hel : ∀ (f' : Nat) (cs' : List Value) (x' : DataW H × List MemPlace) (b o : Nat), f' < fuel → DataW.trod enc P W base spare held f' e cs' = some x' → Wt P e x'.1 → (∀ j u, cs'[j]? = some u → W.cell? ⟨b, o + j, none⟩ = some u) → ∃ y : α, Pred b o y)
    (h : DataW.trod enc P W base spare held fuel t cs = some x) (hw : Wt P t x.1) :
    ∃ a n c, cs = [.slice a n c] ∧ (a = none → c = 0) ∧ ∃ ys : List α, RdOf (· < W.heap.size) sz Pred a n c ys := by
  rcases DataW.trod_slice ht h with ⟨rfl, _⟩ | ⟨a, len, cap, elems, rest, n, hfu, rfl, rfl, hb, hl, hm, hlen, hel', _, _⟩
  · exact ⟨none, 0, 0, rfl, fun _ => rfl, [], rfl, Nat.le_refl _, ⟨Nat.zero_le _, Nat.zero_le _⟩, .inl rfl⟩
  · refine ⟨some a, len, cap, rfl, (fun h => by cases h), ?_⟩
    obtain ⟨hwl, hwe⟩ := Wt.slice ht hw
    rw [List.length_map, hlen] at hwl
    have hlb : len ≤ 140737488351232 := by
      have h1 : len ≤ (len + (rest.map (·.1)).length) * P.bytesOf e := Nat.le_trans (Nat.le_add_right _ _) (Nat.le_mul_of_pos_right _ hB)
      have h2 := Nat.le_trans h1 hwl
      exact h2
    rcases Nat.eq_zero_or_pos len with h0 | hlp
    · subst h0
      exact ⟨[], rfl, hl, ⟨hm, hlb⟩, .inl rfl⟩
    · have hc : ∀ i, i < len → ∃ cs' x', W.cells? base (a.add (i * sz)) sz = some cs' ∧ DataW.trod enc P W base spare held n e cs' = some x' ∧ Wt P e x'.1 := fun i hi => by
        have hk := hel' i hi
        rw [List.getElem?_eq_getElem (by rw [hlen]; exact hi), hsz] at hk
        obtain ⟨cs', h1, h2⟩ := Option.bind_eq_some_iff.1 hk
        exact ⟨cs', _, h1, h2, hwe _ (List.mem_map_of_mem (List.getElem_mem _))⟩
      obtain ⟨b, off, spot⟩ := a
      have hspot : spot = none ∧ b < W.heap.size := by
        obtain ⟨cs', x', h1, _, _⟩ := hc 0 hlp
        obtain ⟨_, h2, h3⟩ := World.cells?_some h1
        have h4 := h3 0 hpos
        rw [List.getElem?_eq_getElem (by rw [h2]; exact hpos)] at h4
        have h5 := World.cell?_spot h4
        simp [Addr.add] at h5
        subst h5
        rw [addA, addA] at h4
        exact ⟨rfl, World.block_lt_of_cell? W _ h4⟩
      obtain ⟨rfl, hbl⟩ := hspot
      have hy : ∀ i : Nat, ∃ y : Option α, i < len → ∃ z, y = some z ∧ Pred b (off + i * sz) z := fun i => by
        by_cases hi : i < len
        · obtain ⟨cs', x', h1, h2, h3⟩ := hc i hi
          obtain ⟨_, h4, h5⟩ := World.cells?_some h1
          obtain ⟨y, hy⟩ := hel n cs' x' b (off + i * sz) (by omega) h2 h3 (fun j u hu => by
            have hj : j < sz := by rw [← h4]; exact (List.getElem?_eq_some_iff.1 hu).1
            have := h5 j hj
            rw [hu] at this
            rwa [addA, addA] at this)
          exact ⟨some y, fun _ => ⟨y, rfl, hy⟩⟩
        · exact ⟨none, fun h => absurd h hi⟩
      obtain ⟨f, hf⟩ := Classical.axiomOfChoice hy
      obtain ⟨z0, hz0, _⟩ := hf 0 hlp
      refine ⟨(List.range len).map fun i => (f i).getD z0, by simp, hl, ⟨hm, hlb⟩, .inr ⟨b, off, rfl, hbl, fun i y hy => ?_⟩⟩
      have hi : i < len := by simpa using (List.getElem?_eq_some_iff.1 hy).1
      rw [List.getElem?_map, List.getElem?_range hi] at hy
      obtain ⟨z, h1, h2⟩ := hf i hi
      simp only [Option.map_some, Option.some.injEq, h1, Option.getD_some] at hy
      subst hy
      exact h2


theorem Trycells36 : Try.prog.cellsOf 79 = 1 := by kernel_rfl
theorem Trycells39 : Try.prog.cellsOf 95 = 2 := by kernel_rfl
theorem Trycells47 : Try.prog.cellsOf 86 = 11 := by kernel_rfl
theorem Trycells43 : Try.prog.cellsOf 82 = 3 := by kernel_rfl
theorem Trycells45 : Try.prog.cellsOf 84 = 2 := by kernel_rfl
theorem Trycells3 : Try.prog.cellsOf 3 = 1 := by kernel_rfl
theorem Trycells4 : Try.prog.cellsOf 4 = 1 := by kernel_rfl
theorem Trycells9 : Try.prog.cellsOf 9 = 1 := by kernel_rfl
theorem Trycells28 : Try.prog.cellsOf 50 = 1 := by kernel_rfl
theorem Trycells34 : Try.prog.cellsOf 77 = 1 := by kernel_rfl
theorem Trycells37 : Try.prog.cellsOf 93 = 1 := by kernel_rfl
theorem Trybytes36 : 1 ≤ Try.prog.bytesOf 79 := of_decide_eq_true (by kernel_rfl)
theorem Trybytes39 : 1 ≤ Try.prog.bytesOf 95 := of_decide_eq_true (by kernel_rfl)
theorem Trybytes47 : 1 ≤ Try.prog.bytesOf 86 := of_decide_eq_true (by kernel_rfl)

theorem wt_string {H : Type} {P : Program} {t : TypeId} {bs : List UInt8} (h : Wt (H := H) P t (.lit (.string bs))) : bs.length ≤ 140737488351232 := h _ (by simp [DataW.weights])

set_option maxRecDepth 100000 in
set_option maxHeartbeats 2000000 in
theorem rdL_of_trod {H : Type} {enc : TypeId × Value → H} {W : World} {base : Nat} {spare : Nat → Bool} {held : Bool} : ∀ (k fuel : Nat) (cs : List Value) (x : DataW H × List MemPlace), fuel ≤ k → DataW.trod enc Try.prog W base spare held fuel 50 cs = some x → Wt Try.prog 50 x.1 →
    ∃ a n c, cs = [.slice a n c] ∧ (a = none → c = 0) ∧ ∃ z : List (List (Int × List (Flat × Lx k))), RdL (· < W.heap.size) (k + 1) W a n c z
  | 0, 0, cs, x, _, h, _ => by simp [DataW.trod] at h
  | k + 1, fuel, cs, x, hk, h, hw => by
    refine rdOf_of_trod 1 Try.underlying50 Trycells36 (by decide) Trybytes36 (ComplexAt (· < W.heap.size) (RdL (· < W.heap.size) (k + 1) W) W) ?_ h hw
    intro f1 cs1 x1 b o hf1 h1 w1 hc1
    obtain ⟨xs1, n1, hn1, hx1, hl1, hxl1, hff1⟩ := DataW.trod_struct Try.underlying79 h1
    match xs1, hxl1, cs1, hl1 with
    | [y0], _, [u0], _ =>
      have g0 := hff1 0 _ rfl
      simp [Trycells34] at g0
      have w0 : Wt Try.prog 77 y0.1 := Wt.agg Try.underlying79 (by rw [hx1] at w1; exact w1) 0 _ y0 rfl rfl
      obtain ⟨a1, m1, c1, e1, _, z1, r1⟩ := rdOf_of_trod 2 Try.underlying77 Trycells39 (by decide) Trybytes39 (CompAt (· < W.heap.size) (RdL (· < W.heap.size) (k + 1) W) W) (fun f2 cs2 x2 b o hf2 h2 w2 hc2 => by
        obtain ⟨xs2, n2, hn2, hx2, hl2, hxl2, hff2⟩ := DataW.trod_struct Try.underlying95 h2
        match xs2, hxl2, cs2, hl2 with
        | [y0, y1], _, [u0, u1], _ =>
          have g0 := hff2 0 _ rfl
          have g1 := hff2 1 _ rfl
          simp [Trycells3, Trycells37] at g0 g1
          obtain ⟨q0, d0, _, z0⟩ := DataW.trod_int Try.underlying3 g0
          simp at d0
          subst d0
          have w1 : Wt Try.prog 93 y1.1 := Wt.agg Try.underlying95 (by rw [hx2] at w2; exact w2) 1 _ y1 rfl rfl
          obtain ⟨a2, m2, c2, e2, _, z2, r2⟩ := rdOf_of_trod 11 Try.underlying93 Trycells47 (by decide) Trybytes47 (SimpleAt (RdL (· < W.heap.size) (k + 1) W) W) (fun f3 cs3 x3 b o hf3 h3 w3 hc3 => by
            obtain ⟨xs3, n3, hn3, hx3, hl3, hxl3, hff3⟩ := DataW.trod_struct Try.underlying86 h3
            match xs3, hxl3, cs3, hl3 with
            | [y0, y1, y2, y3, y4, y5, y6, y7], _, [u0, u1, u2, u3, u4, u5, u6, u7, u8, u9, u10], _ =>
              have g0 := hff3 0 _ rfl
              have g1 := hff3 1 _ rfl
              have g2 := hff3 2 _ rfl
              have g3 := hff3 3 _ rfl
              have g4 := hff3 4 _ rfl
              have g5 := hff3 5 _ rfl
              have g6 := hff3 6 _ rfl
              have g7 := hff3 7 _ rfl
              simp [Trycells3, Trycells9, Trycells43, Trycells45, Trycells28] at g0 g1 g2 g3 g4 g5 g6 g7
              have hag : Wt Try.prog 86 (.agg (([y0, y1, y2, y3, y4, y5, y6, y7] : List (DataW H × List MemPlace)).map (·.1))) := by rw [hx3] at w3; exact w3
              have wv2 := Wt.agg Try.underlying86 hag 2 _ y2 rfl rfl
              have wv3 := Wt.agg Try.underlying86 hag 3 _ y3 rfl rfl
              have wv4 := Wt.agg Try.underlying86 hag 4 _ y4 rfl rfl
              have wv7 := Wt.agg Try.underlying86 hag 7 _ y7 rfl rfl
              obtain ⟨q0, d0, _, _⟩ := DataW.trod_int Try.underlying3 g0
              obtain ⟨q1, d1, _, _⟩ := DataW.trod_int Try.underlying3 g1
              obtain ⟨q2, d2, v2, _⟩ := DataW.trod_string Try.underlying9 g2
              obtain ⟨q3, d3, v3, _⟩ := DataW.trod_string Try.underlying9 g3
              obtain ⟨q5, d5, _, _⟩ := DataW.trod_int Try.underlying3 g5
              obtain ⟨xs4, n4, _, hx4, _, hxl4, hff4⟩ := DataW.trod_struct Try.underlying82 g4
              obtain ⟨xs6, n6, _, hx6, _, hxl6, hff6⟩ := DataW.trod_struct Try.underlying84 g6
              obtain ⟨a4, m4, c4, e4, _, z4, r4⟩ := rdL_of_trod k n3 _ _ (by omega) g7 wv7
              simp at d0 d1 d2 d3 d5 e4
              subst d0 d1 d2 d3 d5 e4
              match xs4, hxl4, xs6, hxl6 with
              | [t0, t1, t2], _, [s0, s1], _ =>
                have k0 := hff4 0 _ rfl
                have k1 := hff4 1 _ rfl
                have k2 := hff4 2 _ rfl
                have j0 := hff6 0 _ rfl
                have j1 := hff6 1 _ rfl
                simp [Trycells3, Trycells4, Trycells9] at k0 k1 k2 j0 j1
                have wt1 := Wt.agg Try.underlying82 (by rw [hx4] at wv4; exact wv4) 1 _ t1 rfl rfl
                obtain ⟨p0, f0, _, _⟩ := DataW.trod_int Try.underlying3 k0
                obtain ⟨p1, f1, v1, _⟩ := DataW.trod_string Try.underlying9 k1
                obtain ⟨p2, f2, _⟩ := DataW.trod_bool Try.underlying4 k2
                obtain ⟨p3, f3, _, _⟩ := DataW.trod_int Try.underlying3 j0
                obtain ⟨p4, f4, _, _⟩ := DataW.trod_int Try.underlying3 j1
                simp at f0 f1 f2 f3 f4
                subst f0 f1 f2 f3 f4
                refine ⟨(⟨q0, q1, q2, q3, p0, p1, p2, q5, p3, p4⟩, z4), ⟨hc3 0 _ rfl, hc3 1 _ rfl, hc3 2 _ rfl, hc3 3 _ rfl, hc3 4 _ rfl, hc3 5 _ rfl, hc3 6 _ rfl, hc3 7 _ rfl, hc3 8 _ rfl, hc3 9 _ rfl⟩, a4, m4, c4, hc3 10 _ rfl, r4, ?_, ?_, ?_⟩
                · rw [v2] at wv2; have := wt_string wv2; rwa [Array.length_toList] at this
                · rw [v3] at wv3; have := wt_string wv3; rwa [Array.length_toList] at this
                · rw [v1] at wt1; have := wt_string wt1; rwa [Array.length_toList] at this) g1 w1
          simp at e2
          subst e2
          exact ⟨(q0, z2), hc2 0 _ rfl, a2, m2, c2, hc2 1 _ rfl, r2⟩) g0 w0
      simp at e1
      subst e1
      exact ⟨z1, a1, m1, c1, hc1 0 _ rfl, r1⟩
end Go.Proofs.Ytfgnepbpfglepaa
