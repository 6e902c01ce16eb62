/- SelSums: the law's walk. -/
import Derived.Test.YtpccakalkcgdeaaSl10
import Derived.Deep.RegionHeld3
namespace Go.Proofs.Ytpccakalkcgdeaa
open Go.RowKit
set_option linter.unusedVariables false

theorem TryinfoCx : (Try.prog.info? 36).map (fun i => (i.zero, i.size, i.bytes)) = some (some (.agg #[.slice none 0 0]), 1, 24) := by kernel_rfl
theorem vals_later {w w' : World} {a : Option Addr} {n : Nat} {vs : List Value} (h : n = 0 ∨ ∃ b off, a = some ⟨b, off, none⟩ ∧ ∀ j u, vs[j]? = some u → w.cell? ⟨b, off + j, none⟩ = some u) (hb : Below w.heap.size w w') :
    n = 0 ∨ ∃ b off, a = some ⟨b, off, none⟩ ∧ ∀ j u, vs[j]? = some u → w'.cell? ⟨b, off + j, none⟩ = some u := by
  rcases h with h | ⟨b, off, rfl, hc⟩
  · exact .inl h
  · exact .inr ⟨b, off, rfl, fun j u hu => (hb.cell (p := ⟨b, off + j, none⟩) (cellW_lt (hc j u hu))).trans (hc j u hu)⟩
/-- A row of one's own of the slices of two lists reads as both. -/
theorem rdL_owned {d : Nat} {w w0 : World} {base : Nat} {T : TypeId} {v : Value} {n m : Nat} {va vb : List Value} {x y : List (List (Int × List (Flat × Lx d)))} (hb : Below w0.heap.size w0 w) (h : w.ownsRow base T 1 v (n + m) (va ++ vb)) (hx : x.length = n) (hy : y.length = m) (hva : va.length = n) (hnm : n + m ≤ 140737488351232)
    (ha : ∀ (i : Nat) (cx : List (Int × List (Flat × Lx d))), x[i]? = some cx → ∃ a1 n1 c1, va[i]? = some (Value.slice a1 n1 c1) ∧ RdX (· < w0.heap.size) (RdL (· < w0.heap.size) d w0) w0 a1 n1 c1 cx)
    (hbb : ∀ (i : Nat) (cx : List (Int × List (Flat × Lx d))), y[i]? = some cx → ∃ a1 n1 c1, vb[i]? = some (Value.slice a1 n1 c1) ∧ RdX (· < w0.heap.size) (RdL (· < w0.heap.size) d w0) w0 a1 n1 c1 cx) :
    ∃ av cap, v = .slice av (n + m) cap ∧ RdL (· < w.heap.size) (d + 1) w av (n + m) cap (x ++ y) := by
  rcases h.2 with ⟨rfl, h0⟩ | ⟨g, cap, cur, rfl, hg, hh, hn, hcap, hsz, htake⟩
  · have e1 : x = [] := List.length_eq_zero_iff.1 (by omega)
    have e2 : y = [] := List.length_eq_zero_iff.1 (by omega)
    subst e1 e2
    exact ⟨none, 0, by rw [h0], by rw [h0]; rfl, by omega, ⟨by unfold maxLen; omega, by omega⟩, .inl rfl⟩
  · refine ⟨_, cap, rfl, ?_⟩
    refine ⟨by rw [List.length_append]; omega, hn, ⟨hcap, hnm⟩, .inr ⟨g, 0, rfl, (Array.getElem?_eq_some_iff.1 hh).1, fun i cx hcx => ?_⟩⟩
    have hu : ∃ a1 n1 c1, (va ++ vb)[i]? = some (Value.slice a1 n1 c1) ∧ RdX (· < w0.heap.size) (RdL (· < w0.heap.size) d w0) w0 a1 n1 c1 cx := by
      rcases Nat.lt_or_ge i n with hi | hi
      · rw [List.getElem?_append_left (by omega)] at hcx
        rw [List.getElem?_append_left (by omega)]
        exact ha i cx hcx
      · rw [List.getElem?_append_right (by omega), hx] at hcx
        rw [List.getElem?_append_right (by omega), hva]
        exact hbb _ cx hcx
    obtain ⟨a1, n1, c1, h1, h2⟩ := hu
    have hc := h.cells (g := g) rfl i _ h1
    refine ⟨a1, n1, c1, ?_, RdX.later hb (Nat.le_refl _) h2⟩
    rw [← hc]; congr 1; unfold Addr.add; simp

theorem rdX_oneK {L : Type} {ok : Nat → Prop} {R : Option Addr → Nat → Nat → L → Prop} {W : World} {p : Nat} {a : Option Addr} {n c : Nat} {T : TypeId} {k : Int} {ys : List (Flat × L)} (hp : Blk W p [.int .i64 k, .slice a n c] T) (ho : ok p)
    (h : RdOf ok 11 (SimpleAt R W) a n c ys) : RdX ok R W (some ⟨p, 0, none⟩) 1 1 [(k, ys)] :=
  ⟨rfl, Nat.le_refl _, by unfold maxLen; omega, .inr ⟨p, 0, rfl, ho, fun i y hy => by
    rcases i with _ | i
    · obtain rfl := get0 hy
      exact ⟨hp.cell 0 _ rfl, a, n, c, hp.cell 1 _ rfl, h⟩
    · exact (getn1 hy).elim⟩⟩
/-- What the comparison's region reads, and what it keeps. -/
def SumS (v : Value) (t : Sp) (P : Nat) (w0 w' : World) : Prop :=
  Blk w' P [v] 36 ∧ Blk w' (P + 1) (spL t) 23 ∧ Below w0.heap.size w0 w'
theorem SumS.later {v : Value} {t : Sp} {P : Nat} {w0 w1 w2 : World} (h : SumS v t P w0 w1) (hb : Below w1.heap.size w1 w2) : SumS v t P w0 w2 := by
  obtain ⟨h1, h2, h3⟩ := h
  exact ⟨h1.later hb h1.lt, h2.later hb h2.lt, below_trans h3 hb⟩
theorem SumS.says {v : Value} {t1 t2 t3 : Int} {P : Nat} {w0 w1 : World} (h : SumS v (t1, t2, t3) P w0 w1) :
    w1.cell? ⟨P, 0, none⟩ = some v ∧ w1.cell? ⟨P + 1, 0, none⟩ = some (.int .i64 t1) ∧ w1.cell? ⟨P + 1, 1, none⟩ = some (.int .i64 t2) ∧ w1.cell? ⟨P + 1, 2, none⟩ = some (.int .i64 t3) :=
  ⟨h.1.cell 0 _ rfl, h.2.1.cell 0 _ rfl, h.2.1.cell 1 _ rfl, h.2.1.cell 2 _ rfl⟩

set_option maxRecDepth 100000 in
set_option maxHeartbeats 8000000 in
theorem lawSums_any (d : Nat) (x y : List (List (Int × List (Flat × Lx d)))) (a b : Option Addr) (n c m e : Nat) (w : World) (hx : RdL (· < w.heap.size) (d + 1) w a n c x) (hy : RdL (· < w.heap.size) (d + 1) w b m e y)
    (ha : a = none → c = 0) (hb : b = none → e = 0) :
    Calls Try.prog 5 #[.slice a n c, .slice b m e] w (Told (.bool true) w) := by
  have HX := Lib.hid hx
  have HY := Lib.hid hy
  have HA := Lib.hid ha
  have HBn := Lib.hid hb
  clear hx hy ha hb
  go_enter Try.func5, Try.ntmps5
  go_wp2_with fail
  refine (speaks8_any _).mono ?_
  rintro e1 w1 ⟨rfl, hb1⟩
  have cG := great_any 60 (by omega) (d + 1) x a n c w1 (HX.out.later hb1 (Nat.le_refl _))
  go_wp2_with fail
  refine cG.mono ?_
  rintro e2 w2 ⟨g1, rfl, hg1, hb2⟩
  have HB2 := Lib.hid (below_trans hb1 hb2)
  clear cG hb1 hb2
  cases g1
  case true =>
    clear hg1
    go_wp2
    go_ret
    exact ⟨rfl, HB2.out⟩
  have HG1 := Lib.hid (hg1 rfl)
  have cG := great_any 60 (by omega) (d + 1) y b m e w2 (HY.out.later HB2.out (Nat.le_refl _))
  clear hg1
  go_wp2_with fail
  refine cG.mono ?_
  rintro e3 w3 ⟨g2, rfl, hg2, hb3⟩
  have HB3 := Lib.hid (below_trans HB2.out hb3)
  clear cG hb3
  cases g2
  case true =>
    clear hg2
    go_wp2
    go_ret
    exact ⟨rfl, HB3.out⟩
  have HG2 := Lib.hid (hg2 rfl)
  clear hg2
  have hn : n ≤ 60 := HX.out.1 ▸ HG1.out.2
  have hm : m ≤ 60 := HY.out.1 ▸ HG2.out.2
  obtain ⟨va, hva1, hva2, hva3, hva4⟩ := rdL_vals (HX.out.later HB3.out (Nat.le_refl _))
  obtain ⟨vb, hvb1, hvb2, hvb3, hvb4⟩ := rdL_vals (HY.out.later HB3.out (Nat.le_refl _))
  obtain ⟨i0, hi, hzz⟩ := Option.map_eq_some_iff.1 TryinfoCx
  simp only [Prod.mk.injEq] at hzz
  obtain ⟨hz0, hz1, hz2⟩ := hzz
  have HVA := Lib.hid hva3
  have HVB := Lib.hid hvb3
  have HVA4 := Lib.hid hva4
  have HVB4 := Lib.hid hvb4
  have hbE : Below w3.heap.size w3 (w3.alloc (.cells #[] 36)) := (Below.refl _ _).alloc (Nat.le_refl _) _
  have HE := Lib.hid hbE
  have HO := Lib.hid (owns_empty' (base := w3.heap.size) (heap_alloc_new w3 (.cells #[] 36)) (Nat.le_refl _))
  have HI := Lib.hid (And.intro hi (And.intro hz0 (And.intro hz1 hz2)))
  clear hva3 hvb3 hva4 hvb4 hbE hi hz0 hz1 hz2
  go_wp2_with (first
    | (at_builtin; refine wpList_append_vals rfl _ _ 28 rfl w3.heap.size 36 i0 _ 24 Try.underlying28 HI.out.1 HI.out.2.1 rfl HI.out.2.2.1 HI.out.2.2.2 _ 0 [] rfl HO.out a n c va hva1 rfl hva2 (vals_later HVA.out HE.out) HA.out (by unfold maxLen; omega) (by omega) (by simp) ?_; intro v4 w4 hown4 hgr4; have HO4 := Lib.hid hown4; have HE4 := Lib.hid (show Below w3.heap.size w3 w4 from HE.out.grown hgr4 (by simp) (fun k e => by cases e; exact Nat.le_refl _)))
    | (at_builtin; refine wpList_append_vals rfl _ _ 28 rfl w3.heap.size 36 i0 _ 24 Try.underlying28 HI.out.1 HI.out.2.1 rfl HI.out.2.2.1 HI.out.2.2.2 _ (0 + n) _ rfl HO4.out b m e vb hvb1 rfl hvb2 (vals_later HVB.out HE4.out) HBn.out (by unfold maxLen; omega) (by omega) HE4.out.size ?_; intro v5 w5 hown5 hgr5; have HO5 := Lib.hid hown5; have HE5 := Lib.hid (show Below w3.heap.size w3 w5 from HE4.out.grown hgr5 HE4.out.size (fun k e => (HO4.out.lt k e).1)))
    | (go_at_call 18; fail))
  have hO5 : w5.ownsRow w3.heap.size 36 1 v5 (n + m) (va ++ vb) := by simpa using HO5.out
  obtain ⟨av, cap, hv5, hrd⟩ := rdL_owned HE5.out hO5 HX.out.1.symm HY.out.1.symm hva1 (by omega) HVA4.out HVB4.out
  rw [hv5]
  have HR5 := Lib.hid hrd
  have HB5 := Lib.hid (below_trans HB3.out HE5.out)
  have hsum := size_append d x y
  have hdeep := deep_append d x y HG1.out.1.2 HG2.out.1.2
  clear hO5 hv5 hrd HO HO4 HO5 HE HE4 HE5 HI HVA HVB HVA4 HVB4 hva1 hva2 hvb1 hvb2 hgr4 hgr5 hown4 hown5
  have hN120 : n + m ≤ 120 := by omega
  generalize n + m = N at *
  have q1 : (sizeF (d + 1) (x ++ y) != wrap64 (sizeF (d + 1) x + sizeF (d + 1) y)) = false := by rw [hsum]; simp
  have cS1 := size_any (d + 1) (x ++ y) av N cap w5 HR5.out
  have cD1 := fun w h => deep_any (d + 1) (x ++ y) av N cap w h
  have cS2 := fun w h => size_any (d + 1) x a n c w h
  have cS3 := fun w h => size_any (d + 1) y b m e w h
  have cD2 := fun w h => deep_any (d + 1) x a n c w h
  have cD3 := fun w h => deep_any (d + 1) y b m e w h
  generalize sizeF (d + 1) (x ++ y) = s1 at *
  generalize sizeF (d + 1) x = s2 at *
  generalize sizeF (d + 1) y = s3 at *
  clear hsum
  refine cS1.mono ?_
  rintro e6 w6 ⟨rfl, hb6⟩
  have HB6 := Lib.hid (below_trans HB5.out hb6)
  have HL6 := Lib.hid hb6
  clear cS1 hb6
  go_wp2_with fail
  refine (cS2 _ (HX.out.later HB6.out (Nat.le_refl _))).mono ?_
  rintro e7 w7 ⟨rfl, hb7⟩
  have HB7 := Lib.hid (below_trans HB6.out hb7)
  have HL7 := Lib.hid (below_trans HL6.out hb7)
  clear cS2 hb7
  go_wp2_with fail
  refine (cS3 _ (HY.out.later HB7.out (Nat.le_refl _))).mono ?_
  rintro e8 w8 ⟨rfl, hb8⟩
  have HB8 := Lib.hid (below_trans HB7.out hb8)
  have HL8 := Lib.hid (below_trans HL7.out hb8)
  clear cS3 hb8
  go_wp2_with fail
  refine (cD1 _ (HR5.out.later HL8.out (Nat.le_refl _))).mono ?_
  rintro e9 w9 ⟨rfl, hb9⟩
  have HB9 := Lib.hid (below_trans HB8.out hb9)
  have HL9 := Lib.hid (below_trans HL8.out hb9)
  clear cD1 hb9
  go_wp2_with fail
  refine (cD2 _ (HX.out.later HB9.out (Nat.le_refl _))).mono ?_
  rintro e10 w10 ⟨rfl, hb10⟩
  have HB10 := Lib.hid (below_trans HB9.out hb10)
  have HL10 := Lib.hid (below_trans HL9.out hb10)
  clear cD2 hb10
  go_wp2_with fail
  refine (cD3 _ (HY.out.later HB10.out (Nat.le_refl _))).mono ?_
  rintro e11 w11 ⟨rfl, hb11⟩
  have HB11 := Lib.hid (below_trans HB10.out hb11)
  have HL11 := Lib.hid (below_trans HL10.out hb11)
  clear cD3 hb11
  generalize deepF (d + 1) x = d2 at *
  generalize deepF (d + 1) y = d3 at *
  clear hdeep HG1 HG2 q1
  have HR11 := Lib.hid (HR5.out.later HL11.out (Nat.le_refl _))
  have HNN := Lib.hid HR11.out.1
  have HX11 := Lib.hid (show RdL (· < w11.heap.size) (d + 1) w11 av N cap (x ++ y) from HR11.out)
  have hNI : (N : Int) ≤ 120 := by omega
  clear HR5 HL6 HL7 HL8 HL9 HL10 HL11 HB2 HB3 HB5 HB6 HB7 HB8 HB9 HB10 HX HY HA HBn hn hm HR11
  generalize x ++ y = z at *
  rcases Int.le_total d2 d3 with hle | hle
  all_goals
    first | rw [Int.max_eq_right hle] | rw [Int.max_eq_left hle]
    go_wp2
  all_goals
    go_loopw [45] (fun i wr => ∃ k : Nat, k ≤ N ∧ i = .int .i64 k ∧ Below w11.heap.size w11 wr) (fun i _ => N - (intOf i).toNat)
    case atStart => exact ⟨0, Nat.zero_le _, rfl, Below.refl _ _⟩
    case round =>
      obtain ⟨k, hk, rfl, hB⟩ := hrel
      by_cases hlt : k < N
      · have hkI : (0 : Int) ≤ (k : Int) := by omega
        have hkI2 : (k : Int) < (N : Int) := by omega
        obtain ⟨cx, hcx⟩ : ∃ cx, z[k]? = some cx := ⟨_, List.getElem?_eq_getElem (by rw [← HNN.out]; exact hlt)⟩
        obtain ⟨g, off, rfl, hg, a1, n1, c1, hc1, hX1⟩ := HX11.out.at k cx hcx
        rw [Nat.mul_one, ← hB.cell (p := ⟨g, off + k, none⟩) hg] at hc1
        have hn1 : n1 ≤ 140737488351232 := hX1.2.2.1.2
        have hn1I : (n1 : Int) ≤ 140737488351232 := by omega
        have HN1 := Lib.hid hX1.1
        have HX1 := Lib.hid hX1
        have HP := Lib.hid ((Blk.alloc (w := wr) [.slice a1 n1 c1] 36).alloc_old (.cells #[.int .i64 0, .int .i64 0, .int .i64 0] 23))
        have hq := Blk.alloc (w := wr.alloc (.cells #[.slice a1 n1 c1] 36)) [.int .i64 0, .int .i64 0, .int .i64 0] 23
        rw [World.size_alloc] at hq
        have HQ := Lib.hid hq
        have HBB := Lib.hid (show Below w11.heap.size w11 ((wr.alloc (.cells #[.slice a1 n1 c1] 36)).alloc (.cells #[.int .i64 0, .int .i64 0, .int .i64 0] 23)) from (hB.alloc hB.size _).alloc (by have := hB.size; simp; omega) _)
        have hwr := hB.size
        clear hX1 hcx hB hq
        go_wp2
        generalize ((wr.alloc (.cells #[.slice a1 n1 c1] 36)).alloc (.cells #[.int .i64 0, .int .i64 0, .int .i64 0] 23)) = W0 at *
        generalize wr.heap.size = P at *
        go_loopw [53] (fun i wq => ∃ (k1 : Nat) (t : Sp), k1 ≤ n1 ∧ i = .int .i64 k1 ∧ Hid (t = (cx.take k1).foldl (fun t k => plusF t (specX (greatestF d) [k])) (0, 0, 0)) ∧ Hid (Blk wq P [.slice a1 n1 c1] 36) ∧ Hid (Blk wq (P + 1) (spL t) 23) ∧ Below w11.heap.size w11 wq) (fun i _ => n1 - (intOf i).toNat)
        case atStart => exact ⟨0, (0, 0, 0), Nat.zero_le _, rfl, Lib.hid rfl, HP, HQ, HBB.out⟩
        case round =>
          clear HP HQ HBB
          obtain ⟨k1, t, hk1, rfl, ht, hp1, hp2, hB⟩ := hrel
          by_cases hlt1 : k1 < n1
          · have hkI3 : (0 : Int) ≤ (k1 : Int) := by omega
            have hkI4 : (k1 : Int) < (n1 : Int) := by omega
            obtain ⟨kx, hkx⟩ : ∃ kx, cx[k1]? = some kx := ⟨_, List.getElem?_eq_getElem (by rw [← HN1.out]; exact hlt1)⟩
            obtain ⟨b1, off1, rfl, hb1, hcc, a2, n2, c2, hc2, hX2⟩ := HX1.out.at k1 kx hkx
            rw [← hB.cell (p := ⟨b1, _, none⟩) hb1] at hcc hc2
            have hBc : Below w11.heap.size w11 ((wr.alloc (.cells #[.int .i64 kx.1, .slice a2 n2 c2] 39)).alloc (.cells #[.int .i64 kx.1, .slice a2 n2 c2] 39)) := (hB.alloc hB.size _).alloc (by have := hB.size; simp; omega) _
            have hp4 : Blk ((wr.alloc (.cells #[.int .i64 kx.1, .slice a2 n2 c2] 39)).alloc (.cells #[.int .i64 kx.1, .slice a2 n2 c2] 39)) (wr.heap.size + 1) [.int .i64 kx.1, .slice a2 n2 c2] 39 := by
              have := Blk.alloc (w := wr.alloc (.cells #[.int .i64 kx.1, .slice a2 n2 c2] 39)) [.int .i64 kx.1, .slice a2 n2 c2] 39
              rwa [World.size_alloc] at this
            have hrd : RdX (· < ((wr.alloc (.cells #[.int .i64 kx.1, .slice a2 n2 c2] 39)).alloc (.cells #[.int .i64 kx.1, .slice a2 n2 c2] 39)).heap.size) (RdL (· < ((wr.alloc (.cells #[.int .i64 kx.1, .slice a2 n2 c2] 39)).alloc (.cells #[.int .i64 kx.1, .slice a2 n2 c2] 39)).heap.size) d ((wr.alloc (.cells #[.int .i64 kx.1, .slice a2 n2 c2] 39)).alloc (.cells #[.int .i64 kx.1, .slice a2 n2 c2] 39))) ((wr.alloc (.cells #[.int .i64 kx.1, .slice a2 n2 c2] 39)).alloc (.cells #[.int .i64 kx.1, .slice a2 n2 c2] 39)) (some ⟨wr.heap.size + 1, 0, none⟩) 1 1 [(kx.1, kx.2)] :=
              rdX_oneK hp4 hp4.lt (RdOf.imp hX2 (fun b hb => Nat.lt_of_lt_of_le hb hBc.size) (fun _ _ _ hb h => h.move (hBc.block _ hb) (fun _ _ _ _ h => RdL.later hBc (Nat.le_refl _) h)))
            have cS := spec_any d [(kx.1, kx.2)] _ _ _ _ hrd
            have hst := Lib.hid (show plusF t (specX (greatestF d) [(kx.1, kx.2)]) = (cx.take (k1 + 1)).foldl (fun t k => plusF t (specX (greatestF d) [k])) (0, 0, 0) from by
              rw [List.take_add_one, hkx, List.foldl_append, ← ht.out]; rfl)
            have HP1 := Lib.hid ((hp1.out.alloc_old (.cells #[.int .i64 kx.1, .slice a2 n2 c2] 39)).alloc_old (.cells #[.int .i64 kx.1, .slice a2 n2 c2] 39))
            have HP2 := Lib.hid ((hp2.out.alloc_old (.cells #[.int .i64 kx.1, .slice a2 n2 c2] 39)).alloc_old (.cells #[.int .i64 kx.1, .slice a2 n2 c2] 39))
            have HBC := Lib.hid hBc
            generalize specX (greatestF d) [(kx.1, kx.2)] = g at *
            obtain ⟨g1, g2, g3⟩ := g
            obtain ⟨t1, t2, t3⟩ := t
            unfold spV at cS
            dsimp only at cS
            clear hX2 hkx ht hp1 hp2 hB hBc hp4 hrd
            go_wp2_with fail
            refine cS.mono ?_
            rintro e13 w13 ⟨rfl, hb13⟩
            have hQ1 := (HP2.out.later hb13 HP2.out.lt).alloc_old (.cells #[.int .i64 g1, .int .i64 g2, .int .i64 g3] 23)
            have hQ2 := Blk.alloc (w := w13) [.int .i64 g1, .int .i64 g2, .int .i64 g3] 23
            obtain ⟨x1, x2, x3⟩ := cells3s (show Blk _ _ [.int .i64 t1, .int .i64 t2, .int .i64 t3] _ from hQ1)
            obtain ⟨y1, y2, y3⟩ := cells3s hQ2
            have z1 := hQ1.frozen 0
            have z2 := hQ1.frozen 1
            have z3 := hQ1.frozen 2
            have HQ1 := Lib.hid hQ1
            have HP3 := Lib.hid ((HP1.out.later hb13 HP1.out.lt).alloc_old (.cells #[.int .i64 g1, .int .i64 g2, .int .i64 g3] 23))
            have HBD := Lib.hid (show Below w11.heap.size w11 (w13.alloc (.cells #[.int .i64 g1, .int .i64 g2, .int .i64 g3] 23)) from (below_trans HBC.out hb13).alloc (below_trans HBC.out hb13).size _)
            clear cS hb13 hQ1 hQ2 HP1 HP2 HBC
            go_wp2
            go_roundw
            case rel => exact ⟨k1 + 1, plusF (t1, t2, t3) (g1, g2, g3), by omega, by go_num, hst, Lib.hid (((HP3.out.kept (grown_setCell _ (P + 1) 0 _) (by simp)).kept (grown_setCell _ (P + 1) 1 _) (by simp)).kept (grown_setCell _ (P + 1) 2 _) (by simp)), Lib.hid (((HQ1.out.setCell 0 _).setCell 1 _).setCell 2 _), ((HBD.out.setCell (p := ⟨P + 1, 0, none⟩) (by simp; omega) _).setCell (p := ⟨P + 1, 1, none⟩) (by simp; omega) _).setCell (p := ⟨P + 1, 2, none⟩) (by simp; omega) _⟩
            case measure => simp [intOf]; omega
          · obtain rfl : k1 = n1 := by omega
            have hts : specX (greatestF d) cx = t := by
              rw [ht.out, List.take_of_length_le (l := cx) (by rw [← HN1.out]; exact Nat.le_refl _), spec_sums0]
            have cS := fun w h => spec_any d cx a1 k1 c1 w h
            rw [hts] at cS
            obtain ⟨t1, t2, t3⟩ := t
            unfold spV at cS
            dsimp only at cS
            have HS0 : Hid (SumS (.slice a1 k1 c1) (t1, t2, t3) P w11 wr.drew) := Lib.hid ⟨hp1.out, hp2.out, hB.drew⟩
            have CS := Lib.hid cS
            clear ht hts hp1 hp2 hB cS
            go_wp2
            have cS := CS.out wr.drew (RdX.later HS0.out.2.2 (Nat.le_refl _) HX1.out)
            go_region_held3 (fun w' => w'.cell? ⟨P, 0, none⟩ = some (.slice a1 k1 c1) ∧ w'.cell? ⟨P + 1, 0, none⟩ = some (.int .i64 t1) ∧ w'.cell? ⟨P + 1, 1, none⟩ = some (.int .i64 t2) ∧ w'.cell? ⟨P + 1, 2, none⟩ = some (.int .i64 t3))
              (first | exact HS0.out.says | exact HS1.out.says)
              (first | (go_at_call 20; (with_reducible refine cS.mono ?_); rintro e14 w14 ⟨rfl, hb14⟩; have HS1 := Lib.hid (HS0.out.later hb14)))
            all_goals
              go_wp2
              go_roundw
              case rel => exact ⟨k + 1, by omega, by go_num, HS1.out.2.2⟩
              case measure => simp [intOf]; omega
      · obtain rfl : k = N := by omega
        have HB12 := Lib.hid (below_trans HB11.out hB)
        clear hB
        go_wp2
        go_ret
        exact ⟨rfl, HB12.out⟩
end Go.Proofs.Ytpccakalkcgdeaa
