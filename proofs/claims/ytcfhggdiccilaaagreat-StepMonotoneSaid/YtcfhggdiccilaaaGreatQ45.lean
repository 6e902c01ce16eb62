/- Texts of mine in one: Sg9. -/
import Derived.Test.YtcfhggdiccilaaaGreatQ44
import Derived.Test.YtcfhggdiccilaaaGreatQ34
namespace Go.Proofs.YtcfhggdiccilaaaGreat
section
open Go.RowKit
set_option linter.unusedVariables false
def sizS {L : Type} (f : L → Nat) (s : Flat × L) : Nat := 1 + f s.2
def sizK {L : Type} (f : L → Nat) (k : Int × List (Flat × L)) : Nat := 1 + (k.2.map (sizS f)).sum
def sizX {L : Type} (f : L → Nat) (x : List (Int × List (Flat × L))) : Nat := 1 + (x.map (sizK f)).sum
def sizL : (d : Nat) → Lx d → Nat
  | 0, _ => 0
  | d + 1, x => (List.map (sizX (sizL d)) x).sum
theorem sum_le4 {α : Type} (f g : α → Nat) : ∀ (l : List α), (∀ x ∈ l, f x ≤ 4 * g x) → (l.map f).sum ≤ 4 * (l.map g).sum
  | [], _ => Nat.le_refl _
  | x :: l, h => by
    have h1 := h x (List.mem_cons_self ..)
    have h2 := sum_le4 f g l (fun y hy => h y (List.mem_cons_of_mem _ hy))
    simp only [List.map_cons, List.sum_cons]
    omega
theorem cnt_siz : ∀ (d : Nat) (x : Lx d), cntL d x ≤ 4 * sizL d x
  | 0, _ => Nat.le_refl _
  | d + 1, x => sum_le4 (cntX (cntL d)) (sizX (sizL d)) x (fun c _ => by
    have h1 := sum_le4 (cntK (cntL d)) (sizK (sizL d)) c (fun k _ => by
      have h2 := sum_le4 (cntS (cntL d)) (sizS (sizL d)) k.2 (fun s _ => by have := cnt_siz d s.2; unfold cntS sizS; omega)
      unfold cntK sizK
      omega)
    unfold cntX sizX
    omega)
def CountPostG (most : Nat) (d : Nat) (x : Lx d) (deep : Nat) (w : World) (e : Ending) (w' : World) : Prop :=
  ∃ v : Nat, e = .returned (.int .i64 v) ∧ (v ≤ countB deep ∧ lenL d x ≤ v) ∧ (v ≤ most → (deepF d x + deep ≤ 43 ∧ Shal d x) ∧ sizL d x ≤ v) ∧ Below w.heap.size w w'
def CountVG (most : Nat) (d : Nat) (s : Flat × Lx d) : Prop := ∀ (deep : Nat), deep ≤ 41 → ∀ (a : Option Addr) (n c : Nat) (w : World), RdL (· < w.heap.size) d w a n c s.2 →
  Calls Tryz.prog 30 #[.slice a n c, .int .i64 most, .int .i64 deep] w (CountPostG most d s.2 deep w)
set_option maxRecDepth 100000 in
set_option maxHeartbeats 8000000 in
theorem countG_step (most : Nat) (hmo : most ≤ 1000) (d : Nat) (x : List (List (Int × List (Flat × Lx d)))) (IH : ∀ s ∈ simplesL x, CountVG most d s) (deep : Nat) (hd : deep ≤ 41)
    (a : Option Addr) (n c : Nat) (w : World) (hx : RdL (· < w.heap.size) (d + 1) w a n c x) :
    Calls Tryz.prog 30 #[.slice a n c, .int .i64 most, .int .i64 deep] w (CountPostG most (d + 1) x deep w) := by
  have hmx : n ≤ 140737488351232 := hx.2.2.1.2
  have hm : n ≤ 9223372036854775807 := (RdL.len hx).2
  have hn : n = x.length := hx.1
  have HN := Lib.hid hn
  have HN' := Lib.hid (show lenL (d + 1) x = n from hn.symm)
  have HX := Lib.hid hx
  have HIH := Lib.hid IH
  clear hx IH hn
  have hmI : (most : Int) ≤ 1000 := by omega
  go_enter Tryz.func30, Tryz.ntmps30
  go_wp2
  go_loopw [7, 8] (fun nv i wr => ∃ (k v : Nat), k ≤ n ∧ i = .int .i64 k ∧ nv = .int .i64 v ∧ Hid ((v ≤ countB deep ∧ n ≤ v) ∧ (v ≤ most → (∀ s ∈ simplesL (x.take k), deepF d s.2 + deep ≤ 42) ∧ ((x.take k).map (sizX (sizL d))).sum + n ≤ v + k)) ∧ Below w.heap.size w wr) (fun _ i _ => n - (intOf i).toNat)
  case atStart => exact ⟨0, n, Nat.zero_le _, rfl, rfl, Lib.hid ⟨⟨by unfold countB; omega, Nat.le_refl _⟩, fun _ => ⟨fun s hs => (by cases hs), by simp⟩⟩, Below.refl _ _⟩
  case round =>
    obtain ⟨k, v, hk, rfl, rfl, hv, hB⟩ := hrel
    by_cases hlt : k < n
    · have hkI : (0 : Int) ≤ (k : Int) := by omega
      have hkI2 : (k : Int) < (n : Int) := by omega
      by_cases hvm : v ≤ most
      · have hvI : (v : Int) ≤ (most : Int) := by omega
        obtain ⟨cx, hcx⟩ : ∃ cx, x[k]? = some cx := ⟨_, List.getElem?_eq_getElem (by rw [← HN.out]; exact hlt)⟩
        obtain ⟨b, off, rfl, hb, a1, n1, c1, hc1, hX1⟩ := HX.out.at k cx hcx
        rw [Nat.mul_one, ← hB.cell (p := ⟨b, off + k, none⟩) hb] at hc1
        have hn1x : n1 ≤ 140737488351232 := hX1.2.2.1.2
        have hn1I : (n1 : Int) ≤ 140737488351232 := by omega
        have hN1 := Lib.hid hX1.1
        have HX1 := Lib.hid hX1
        have hv1 := Lib.hid (hv.out.2 hvm)
        have hvn : n ≤ v := hv.out.1.2
        have htk : simplesL (x.take (k + 1)) = simplesL (x.take k) ++ simplesX cx := by
          unfold simplesL; rw [List.take_add_one, hcx, List.flatMap_append]; simp
        have HTK := Lib.hid htk
        have HX2' := Lib.hid (take_snoc hcx)
        have HSTX := Lib.hid (show ∀ cc ∈ x.take (k + 1), cc ∈ x.take k ∨ cc = cx from fun cc hs => by
          rw [List.take_add_one, hcx, List.mem_append] at hs
          exact hs.imp id (fun h => by simpa using h))
        have hmx : ∀ s ∈ simplesX cx, CountVG most d s := fun s hs => HIH.out s (by unfold simplesL; rw [List.mem_flatMap]; exact ⟨cx, List.mem_of_getElem? hcx, hs⟩)
        have HMX := Lib.hid hmx
        have HB := Lib.hid hB
        have HC1 := Lib.hid ((hB.cell (p := ⟨b, off + k, none⟩) hb).symm.trans hc1)
        clear hv hX1 hcx htk hmx hB
        go_wp2
        go_loopw [7, 9] (fun nv i wr => ∃ (k1 v1 : Nat), k1 ≤ n1 ∧ i = .int .i64 k1 ∧ nv = .int .i64 v1 ∧ Hid ((v1 ≤ countB deep ∧ n ≤ v1) ∧ (v1 ≤ most → (∀ s ∈ simplesX (cx.take k1), deepF d s.2 + deep ≤ 42) ∧ ((cx.take k1).map (sizK (sizL d))).sum + v + n1 ≤ v1 + k1) ∧ n1 ≤ v1) ∧ Below w.heap.size w wr) (fun _ i _ => n1 - (intOf i).toNat)
        case atStart => exact ⟨0, v + n1, Nat.zero_le _, rfl, by first | rfl | go_num | simp, Lib.hid ⟨⟨by unfold countB; omega, by omega⟩, fun _ => ⟨fun s hs => (by cases hs), by simp⟩, by omega⟩, HB.out⟩
        case round =>
          clear hc1 HB
          obtain ⟨k1, v1, hk1, rfl, rfl, hv, hB⟩ := hrel
          have hc1 := (hB.cell (p := ⟨b, off + k, none⟩) hb).trans HC1.out
          by_cases hlt1 : k1 < n1
          · have hkI3 : (0 : Int) ≤ (k1 : Int) := by omega
            have hkI4 : (k1 : Int) < (n1 : Int) := by omega
            by_cases hvm1 : v1 ≤ most
            · have hvI1 : (v1 : Int) ≤ (most : Int) := by omega
              obtain ⟨kx, hkx⟩ : ∃ kx, cx[k1]? = some kx := ⟨_, List.getElem?_eq_getElem (by rw [← hN1.out]; exact hlt1)⟩
              obtain ⟨b1, off1, rfl, hb1, hcc, a2, n2, c2, hc2, hX2⟩ := HX1.out.at k1 kx hkx
              rw [← hB.cell (p := ⟨b1, off1 + k1 * 2 + 1, none⟩) hb1] at hc2
              have hn2x : n2 ≤ 140737488351232 := hX2.2.2.1.2
              have hn2I : (n2 : Int) ≤ 140737488351232 := by omega
              have hN2 := Lib.hid hX2.1
              have HX2 := Lib.hid hX2
              have hv1' := Lib.hid (hv.out.2.1 hvm1)
              have hv1n := Lib.hid hv.out.2.2
              have hv1b := Lib.hid hv.out.1
              have htk : simplesX (cx.take (k1 + 1)) = simplesX (cx.take k1) ++ kx.2 := by
                unfold simplesX; rw [List.take_add_one, hkx, List.flatMap_append]; simp
              have HTK1 := Lib.hid htk
              have HK2 := Lib.hid (take_snoc hkx)
              have HSTK := Lib.hid (show ∀ kk ∈ cx.take (k1 + 1), kk ∈ cx.take k1 ∨ kk = kx from fun kk hs => by
                rw [List.take_add_one, hkx, List.mem_append] at hs
                exact hs.imp id (fun h => by simpa using h))
              have hmx : ∀ s ∈ kx.2, CountVG most d s := fun s hs => HMX.out s (by unfold simplesX; rw [List.mem_flatMap]; exact ⟨kx, List.mem_of_getElem? hkx, hs⟩)
              have HMX1 := Lib.hid hmx
              have HB := Lib.hid hB
              clear hv hX2 hkx htk hmx hB hcc
              go_wp2
              go_loopw [7, 11] (fun nv i wr => ∃ (k2 v2 : Nat), k2 ≤ n2 ∧ i = .int .i64 k2 ∧ nv = .int .i64 v2 ∧ Hid ((v2 ≤ countB deep ∧ n ≤ v2) ∧ (v2 ≤ most → (∀ s ∈ kx.2.take k2, deepF d s.2 + deep ≤ 42) ∧ ((kx.2.take k2).map (sizS (sizL d))).sum + v1 ≤ v2) ∧ (n1 ≤ v2 ∧ k2 ≤ v2)) ∧ Below w.heap.size w wr) (fun _ i _ => n2 - (intOf i).toNat)
              case atStart => exact ⟨0, v1, Nat.zero_le _, rfl, rfl, Lib.hid ⟨hv1b.out, fun _ => ⟨fun s hs => (by cases hs), by simp⟩, hv1n.out, Nat.zero_le _⟩, HB.out⟩
              case round =>
                clear hc1 hc2 HB
                obtain ⟨k2, v2, hk2, rfl, rfl, hv, hB⟩ := hrel
                by_cases hlt2 : k2 < n2
                · have hkI5 : (0 : Int) ≤ (k2 : Int) := by omega
                  have hkI6 : (k2 : Int) < (n2 : Int) := by omega
                  by_cases hvm2 : v2 ≤ most
                  · have hvI2 : (v2 : Int) ≤ (most : Int) := by omega
                    obtain ⟨sx, hsx⟩ : ∃ sx, kx.2[k2]? = some sx := ⟨_, List.getElem?_eq_getElem (by rw [← hN2.out]; exact hlt2)⟩
                    obtain ⟨b2, off2, rfl, hb2, ⟨y0, y1, y2, y3, y4, y5, y6, y7, y8, y9⟩, a3, n3, c3, y10, hX3, _⟩ := HX2.out.at k2 sx hsx
                    rw [← hB.cell (p := ⟨b2, _, none⟩) hb2] at y2 y3 y5 y10
                    clear y0 y1 y4 y6 y7 y8 y9
                    have hst : ∀ s ∈ kx.2.take (k2 + 1), s ∈ kx.2.take k2 ∨ s = sx := fun s hs => by
                      rw [List.take_add_one, hsx, List.mem_append] at hs
                      exact hs.imp id (fun h => by simpa using h)
                    have HST := Lib.hid hst
                    have HS2 := Lib.hid (take_snoc hsx)
                    have HV := Lib.hid (hv.out.2.1 hvm2)
                    have HVK := Lib.hid hv.out.2.2
                    have hvn2 : n ≤ v2 := hv.out.1.2
                    have cC := HMX1.out sx (List.mem_of_getElem? hsx) (deep + 1)
                    have hX3' : RdL (· < (show World from _).heap.size) d _ a3 n3 c3 sx.2 := hX3.later hB (Nat.le_refl _)
                    have HB := Lib.hid hB
                    have CC := Lib.hid cC
                    have HX3 := Lib.hid hX3'
                    clear hst hX3 hX3' hv hB cC hsx
                    by_cases hA : (100 : Int) < (sx.1.name.size : Int)
                    · clear CC HX3 HMX1 HMX HIH
                      go_wp2
                      go_ret
                      exact ⟨most + 1, ret_int (by omega), ⟨by unfold countB; omega, by rw [HN'.out]; omega⟩, fun h => by omega, HB.out⟩
                    by_cases hP : (100 : Int) < (sx.1.pre.size : Int)
                    · clear CC HX3 HMX1 HMX HIH
                      go_wp2
                      go_ret
                      exact ⟨most + 1, ret_int (by omega), ⟨by unfold countB; omega, by rw [HN'.out]; omega⟩, fun h => by omega, HB.out⟩
                    by_cases hT : (100 : Int) < (sx.1.text.size : Int)
                    · clear CC HX3 HMX1 HMX HIH
                      go_wp2
                      go_ret
                      exact ⟨most + 1, ret_int (by omega), ⟨by unfold countB; omega, by rw [HN'.out]; omega⟩, fun h => by omega, HB.out⟩
                    by_cases hD : (40 : Int) < (deep : Int)
                    · clear CC HX3 HMX1 HMX HIH
                      go_wp2
                      go_ret
                      exact ⟨most + 1, ret_int (by omega), ⟨by unfold countB; omega, by rw [HN'.out]; omega⟩, fun h => by omega, HB.out⟩
                    have hd2 : deep + 1 ≤ 41 := by omega
                    have cC := CC.out hd2 a3 n3 c3 _ HX3.out
                    rw [show (((deep + 1 : Nat)) : Int) = (deep : Int) + 1 from by omega] at cC
                    clear CC HX3
                    go_wp2_with fail
                    refine cC.mono ?_
                    rintro e w3 ⟨v', rfl, ⟨hv1, _⟩, hv2, hb3⟩
                    have hvb : (v' : Int) ≤ 140737488400000 := by unfold countB at hv1; omega
                    have HN3 := Lib.hid (show (v2 + 1 + v' ≤ countB deep ∧ n ≤ v2 + 1 + v') ∧ (v2 + 1 + v' ≤ most → (∀ s ∈ kx.2.take (k2 + 1), deepF d s.2 + deep ≤ 42) ∧ ((kx.2.take (k2 + 1)).map (sizS (sizL d))).sum + v1 ≤ v2 + 1 + v') ∧ (n1 ≤ v2 + 1 + v' ∧ k2 + 1 ≤ v2 + 1 + v') from ⟨⟨by unfold countB at *; omega, by omega⟩, fun h => ⟨fun s hs => by
                      rcases HST.out s hs with h1 | rfl
                      · exact HV.out.1 s h1
                      · have := (hv2 (by omega)).1.1; omega, by
                      rw [HS2.out, List.map_append, List.sum_append]
                      have h1 := HV.out.2
                      have h2 := (hv2 (by omega)).2
                      simp only [List.map_cons, List.map_nil, List.sum_cons, List.sum_nil]
                      unfold sizS at *
                      omega⟩, by have := HVK.out.1; omega, by have := HVK.out.2; omega⟩)
                    have HB3 := Lib.hid (below_trans HB.out hb3)
                    clear hv1 hv2 cC hb3
                    go_wp2
                    go_roundw
                    case rel => exact ⟨k2 + 1, v2 + 1 + v', by omega, by go_num, by go_num, HN3, HB3.out⟩
                    case measure => simp [intOf]; omega
                  · have HV := hv
                    have HB := Lib.hid hB
                    have hvI : ¬ (v2 : Int) ≤ (most : Int) := by omega
                    clear hv hB
                    have hc1 := (HB.out.cell (p := ⟨b, off + k, none⟩) hb).trans HC1.out
                    go_wp2
                    go_roundw
                    case rel => exact ⟨k1 + 1, v2, by omega, by go_num, rfl, Lib.hid ⟨HV.out.1, fun h => absurd h hvm2, HV.out.2.2.1⟩, HB.out⟩
                    case measure => simp [intOf]; omega
                · obtain rfl : k2 = n2 := by omega
                  have HB := Lib.hid hB
                  have HV := Lib.hid (show (v2 ≤ countB deep ∧ n ≤ v2) ∧ (v2 ≤ most → (∀ s ∈ simplesX (cx.take (k1 + 1)), deepF d s.2 + deep ≤ 42) ∧ ((cx.take (k1 + 1)).map (sizK (sizL d))).sum + v + n1 ≤ v2 + (k1 + 1)) ∧ n1 ≤ v2 from ⟨hv.out.1, fun h => ⟨fun s hs => by
                    rw [HTK1.out, List.mem_append] at hs
                    rcases hs with h1 | h1
                    · exact hv1'.out.1 s h1
                    · exact (hv.out.2.1 h).1 s (by rw [List.take_of_length_le (l := kx.2) (by rw [← hN2.out]; exact Nat.le_refl _)]; exact h1), by
                    rw [HK2.out, List.map_append, List.sum_append]
                    have h1 := hv1'.out.2
                    have h2 := (hv.out.2.1 h).2
                    rw [List.take_of_length_le (l := kx.2) (by rw [← hN2.out]; exact Nat.le_refl _)] at h2
                    simp only [List.map_cons, List.map_nil, List.sum_cons, List.sum_nil]
                    unfold sizK at *
                    omega⟩, hv.out.2.2.1⟩)
                  clear hv hB
                  go_wp2
                  go_roundw
                  case rel => exact ⟨k1 + 1, v2, by omega, by go_num, rfl, HV, HB.out⟩
                  case measure => simp [intOf]; omega
            · have HV := hv
              have HB := Lib.hid hB
              have hvI : ¬ (v1 : Int) ≤ (most : Int) := by omega
              clear hv hB
              go_wp2
              go_roundw
              case rel => exact ⟨k + 1, v1, by omega, by go_num, rfl, Lib.hid ⟨HV.out.1, fun h => absurd h hvm1⟩, HB.out⟩
              case measure => simp [intOf]; omega
          · obtain rfl : k1 = n1 := by omega
            have HB := Lib.hid hB
            have HV := Lib.hid (show (v1 ≤ countB deep ∧ n ≤ v1) ∧ (v1 ≤ most → (∀ s ∈ simplesL (x.take (k + 1)), deepF d s.2 + deep ≤ 42) ∧ ((x.take (k + 1)).map (sizX (sizL d))).sum + n ≤ v1 + (k + 1)) from ⟨hv.out.1, fun h => ⟨fun s hs => by
              rw [HTK.out, List.mem_append] at hs
              rcases hs with h1 | h1
              · exact hv1.out.1 s h1
              · exact (hv.out.2.1 h).1 s (by rw [List.take_of_length_le (l := cx) (by rw [← hN1.out]; exact Nat.le_refl _)]; exact h1), by
              rw [HX2'.out, List.map_append, List.sum_append]
              have h1 := hv1.out.2
              have h2 := (hv.out.2.1 h).2
              rw [List.take_of_length_le (l := cx) (by rw [← hN1.out]; exact Nat.le_refl _)] at h2
              simp only [List.map_cons, List.map_nil, List.sum_cons, List.sum_nil]
              unfold sizX at *
              omega⟩⟩)
            clear hv hB
            go_wp2
            go_roundw
            case rel => exact ⟨k + 1, v1, by omega, by go_num, rfl, HV, HB.out⟩
            case measure => simp [intOf]; omega
      · have HV := hv
        have HB := Lib.hid hB
        have hvI : ¬ (v : Int) ≤ (most : Int) := by omega
        clear hv hB
        go_wp2
        go_ret
        exact ⟨v, rfl, ⟨HV.out.1.1, by rw [HN'.out]; exact HV.out.1.2⟩, fun h => absurd h hvm, HB.out⟩
    · obtain rfl : k = n := by omega
      have hall : v ≤ most → ∀ s ∈ simplesL x, deepF d s.2 + deep ≤ 42 := fun h s hs => (hv.out.2 h).1 s (by rw [List.take_of_length_le (by rw [← HN.out]; exact Nat.le_refl _)]; exact hs)
      have HV := Lib.hid (show v ≤ most → (deepF (d + 1) x + deep ≤ 43 ∧ Shal (d + 1) x) ∧ sizL (d + 1) x ≤ v from fun h => ⟨⟨deepF_bound hd (hall h), fun s hs => by have := hall h s hs; omega⟩, by have h2 := (hv.out.2 h).2; rw [List.take_of_length_le (l := x) (by rw [← HN.out]; exact Nat.le_refl _)] at h2; show (List.map (sizX (sizL d)) x).sum ≤ v; omega⟩)
      clear hall
      have HV1 := Lib.hid hv.out.1
      have HB := Lib.hid hB
      clear hv hB
      go_wp2
      go_ret
      exact ⟨v, rfl, ⟨HV1.out.1, by rw [HN'.out]; exact HV1.out.2⟩, HV.out, HB.out⟩
theorem countG_any (most : Nat) (hmo : most ≤ 1000) : ∀ (d : Nat) (x : Lx d) (deep : Nat), deep ≤ 41 → ∀ (a : Option Addr) (n c : Nat) (w : World), RdL (· < w.heap.size) d w a n c x →
    Calls Tryz.prog 30 #[.slice a n c, .int .i64 most, .int .i64 deep] w (CountPostG most d x deep w)
  | 0, _, deep, hd, a, n, c, w, h => (countG_step most hmo 0 [] (fun _ h => by cases h) deep hd a n c w ⟨h.1, by rw [h.1]; exact Nat.zero_le _, ⟨h.2, by rw [h.1]; omega⟩, .inl rfl⟩).mono fun _ _ ⟨v, h1, h2, h3, h4⟩ => ⟨v, h1, h2, fun _ => ⟨⟨by show (1 : Int) + deep ≤ 43; omega, trivial⟩, Nat.zero_le _⟩, h4⟩
  | d + 1, x, deep, hd, a, n, c, w, h => countG_step most hmo d x (fun s _ deep hd a n c w h => countG_any most hmo d s.2 deep hd a n c w h) deep hd a n c w h
def GreatPostG (most d : Nat) (x : Lx d) (w : World) (e : Ending) (w' : World) : Prop := ∃ b : Bool, e = .returned (.bool b) ∧ (b = false → (deepF d x ≤ 43 ∧ Shal d x) ∧ lenL d x ≤ most ∧ sizL d x ≤ most) ∧ Below w.heap.size w w'
set_option maxRecDepth 100000 in
set_option maxHeartbeats 1000000 in
theorem greatG_any (most : Nat) (hmo : most ≤ 1000) (d : Nat) (x : Lx d) (a : Option Addr) (n c : Nat) (w : World) (h : RdL (· < w.heap.size) d w a n c x) :
    Calls Tryz.prog 17 #[.slice a n c, .int .i64 most] w (GreatPostG most d x w) := by
  have cC := countG_any most hmo d x 0 (by omega) a n c w h
  go_enter Tryz.func17, Tryz.ntmps17
  go_wp2_with fail
  refine cC.mono ?_
  rintro e w1 ⟨v, rfl, ⟨_, h1⟩, h2, hb⟩
  go_wp2
  go_ret
  refine ⟨_, rfl, fun h => ?_, hb⟩
  have : v ≤ most := by simpa using h
  have h3 := h2 this
  exact ⟨⟨by have := h3.1.1; omega, h3.1.2⟩, by omega, Nat.le_trans h3.2 this⟩
end
end Go.Proofs.YtcfhggdiccilaaaGreat
