/- The iterator over simple selectors: walks. -/
import Derived.Test.YtfgnepbpfglepaaSl0
import Derived.RangeFuncFrom
import Derived.RangeFuncNested
import Derived.RangeFuncBound
import Derived.RangeFuncCalls
import Derived.RangeFuncLeaves
import Derived.Shelf.Abstract
import Derived.Shelf.RegionOpen
import Derived.WalkKit
import Derived.OwnWalkIn
import Derived.TacticsInMore
import Derived.LoopNIn
import Derived.LoopIn
namespace Go.Proofs.Ytfgnepbpfglepaa
open Go.RowKit Go.Shelf

attribute [local go_sem] Oper.semAt_some

/-- A simple selector as it is handed out: with the slice of the list within it. -/
abbrev Hx (ok : Nat → Prop) (d : Nat) (V : Flat × Lx d → Prop) (w0 : World) := { s : Flat × Lx d × Option Addr × Nat × Nat // RdL ok d w0 s.2.2.1 s.2.2.2.1 s.2.2.2.2 s.2.1 ∧ V (s.1, s.2.1) }
def Hx.s {ok : Nat → Prop} {d : Nat} {V : Flat × Lx d → Prop} {w0 : World} (x : Hx ok d V w0) : Flat × Lx d := (x.1.1, x.1.2.1)
def Hx.v {ok : Nat → Prop} {d : Nat} {V : Flat × Lx d → Prop} {w0 : World} (x : Hx ok d V w0) : Value := sval x.1.1 x.1.2.2.1 x.1.2.2.2.1 x.1.2.2.2.2
/-- What lay where something holds lies on. -/
def Keeps (ok : Nat → Prop) (A B : World) : Prop := A.heap.size ≤ B.heap.size ∧ ∀ b, ok b → B.heap[b]? = A.heap[b]?
theorem Keeps.trans {ok : Nat → Prop} {A B C : World} (h : Keeps ok A B) (k : Keeps ok B C) : Keeps ok A C := ⟨Nat.le_trans h.1 k.1, fun b hb => (k.2 b hb).trans (h.2 b hb)⟩
theorem Keeps.refl (ok : Nat → Prop) (A : World) : Keeps ok A A := ⟨Nat.le_refl _, fun _ _ => rfl⟩

theorem simplesL_le {L : Type} (x : List (List (Int × List (Flat × L)))) (j : Nat) : (simplesL (x.take j)).length ≤ (simplesL x).length := by
  have h : simplesL x = simplesL (x.take j) ++ simplesL (x.drop j) := by
    unfold simplesL; rw [← List.flatMap_append, List.take_append_drop]
  rw [h, List.length_append]; omega
theorem simplesX_le {L : Type} (x : List (Int × List (Flat × L))) (j : Nat) : (simplesX (x.take j)).length ≤ (simplesX x).length := by
  have h : simplesX x = simplesX (x.take j) ++ simplesX (x.drop j) := by
    unfold simplesX; rw [← List.flatMap_append, List.take_append_drop]
  rw [h, List.length_append]; omega

set_option maxRecDepth 100000 in
set_option maxHeartbeats 4000000 in
theorem simples1_in (n l Bs : Nat) (ok : Nat → Prop) (d : Nat) (V : Flat × Lx d → Prop) (hn : 1 ≤ n) (a : Option Addr) (m c : Nat) (x : List (List (Int × List (Flat × Lx d)))) (w0 : World) (J Jx : List (Hx ok d V w0) → World → Prop)
    (W : World) (hBs : W.cell? ⟨Bs, 0, none⟩ = some (.slice a m c)) (hW : Keeps ok w0 W) (hx : RdL ok (d + 1) w0 a m c x) (hV : ∀ s ∈ simplesL x, V s)
    (hlo : ∀ b, ok b → b < w0.heap.size)
    (hJ : AbidesFrom W.heap.size J)
    (hY : ∀ pre y W1, J pre W1 → pre.length < (simplesL x).length → YieldAt Fence.wide (n - 1) Try.prog l #[y.v] W1 fun e W' =>
      (e = .returned (.bool true) ∧ J (pre ++ [y]) W' ∧ Keeps ok W1 W') ∨ (e = .returned (.bool false) ∧ Jx (pre ++ [y]) W'))
    (h0 : J [] W) :
    CallsIn Fence.wide n Try.prog 90 #[.func (.yield l) #[] #[], .pointer (some ⟨Bs, 0, none⟩)] W fun e W' => (∃ v, e = .returned v) ∧
      ((∃ ys, ys.map Hx.s = simplesL x ∧ J ys W') ∨ (∃ pre, Jx pre W')) := by
  have HY := Lib.hid hY
  have HJ := Lib.hid hJ
  have HV := Lib.hid hV
  have HLO := Lib.hid hlo
  have hmn := Lib.hid hx.1
  have HX := Lib.hid hx
  clear hY hJ hV hx hlo
  have hro : Fence.wide.round = none := rfl
  refine callsIn_of_wp Try.func90 rfl trivial ?_ hro
  simp only [Try.ntmps90, List.size_toArray, List.length_cons, List.length_nil, Nat.reduceAdd, Nat.reduceSub, Array.replicate_succ, Array.replicate_zero, List.push_toArray, List.append_toArray, List.nil_append, List.cons_append]
  have hm2 : m ≤ 9223372036854775807 := by have h1 := HX.out.2.1; have h2 := HX.out.2.2.1; unfold maxLen at h2; omega
  gi_wp2
  gi_loopw [11] (fun i wr => ∃ (k : Nat) (pre : List (Hx ok d V w0)), k ≤ m ∧ i = .int .i64 k ∧ Hid (pre.map Hx.s = simplesL (x.take k)) ∧ J pre wr ∧ Keeps ok w0 wr ∧ W.heap.size ≤ wr.heap.size) (fun i _ => m - (intOf i).toNat)
  case atStart => exact ⟨0, [], Nat.zero_le _, rfl, Lib.hid rfl, h0, hW, Nat.le_refl _⟩
  case round =>
    obtain ⟨k, pre, hk, rfl, hp, hj, hkp, hsz⟩ := hrel
    by_cases hlt : k < m
    · obtain ⟨cx, hcx⟩ : ∃ cx, x[k]? = some cx := ⟨_, List.getElem?_eq_getElem (by rw [← hmn.out]; exact hlt)⟩
      obtain ⟨b, off, rfl, hb, a1, n1, c1, hc1, hX1⟩ := HX.out.at k cx hcx
      rw [Nat.mul_one, ← cell_same (hkp.2 b hb)] at hc1
      have hkI : (0 : Int) ≤ (k : Int) := by omega
      have hkI2 : (k : Int) < (m : Int) := by omega
      have hn1 := Lib.hid hX1.1
      have hm1 : n1 ≤ 9223372036854775807 := by have h1 := hX1.2.1; have h2 := hX1.2.2.1; unfold maxLen at h2; omega
      have HX1 := Lib.hid hX1
      have HJ1 := Lib.hid (HJ.out pre wr _ none hj (World.grownBy_alloc wr (.cells #[.slice a1 n1 c1] 79) none) (fun r e => by cases e))
      have HK1 := Lib.hid (show Keeps ok w0 (wr.alloc (.cells #[.slice a1 n1 c1] 79)) from ⟨Nat.le_trans hkp.1 (by simp), fun b hb => (Below.heap_alloc _ _ _ (Nat.lt_of_lt_of_le (HLO.out b hb) hkp.1)).trans (hkp.2 b hb)⟩)
      have HSZ := Lib.hid (show W.heap.size ≤ (wr.alloc (.cells #[.slice a1 n1 c1] 79)).heap.size from Nat.le_trans hsz (by simp))
      have HP := hp
      clear hp hj hkp hsz hX1 h0 hW
      have htk : ∀ k1, simplesL (x.take k) ++ simplesX (cx.take k1) = simplesL (x.take k) ++ simplesX (cx.take k1) := fun _ => rfl
      have hta : simplesL (x.take (k + 1)) = simplesL (x.take k) ++ simplesX cx := by
        unfold simplesL; rw [List.take_add_one, hcx, List.flatMap_append]; simp
      have hmemx : ∀ s ∈ simplesX cx, V s := fun s hs => HV.out s (by
        unfold simplesL; rw [List.mem_flatMap]; exact ⟨cx, List.mem_of_getElem? hcx, hs⟩)
      have HTA := Lib.hid hta
      have HMX := Lib.hid hmemx
      clear hta hmemx htk hcx
      gi_wp2
      gi_loopw [18] (fun i wr => ∃ (k1 : Nat) (pre : List (Hx ok d V w0)), k1 ≤ n1 ∧ i = .int .i64 k1 ∧ Hid (pre.map Hx.s = simplesL (x.take k) ++ simplesX (cx.take k1)) ∧ J pre wr ∧ Keeps ok w0 wr ∧ W.heap.size ≤ wr.heap.size) (fun i _ => n1 - (intOf i).toNat)
      case atStart => exact ⟨0, pre, Nat.zero_le _, rfl, Lib.hid (by rw [HP.out]; simp [simplesX]), HJ1.out, HK1.out, HSZ.out⟩
      case round =>
        clear HP HJ1 HK1 HSZ
        obtain ⟨k1, pre, hk1, rfl, hp, hj, hkp, hsz⟩ := hrel
        by_cases hlt1 : k1 < n1
        · obtain ⟨kx, hkx⟩ : ∃ kx, cx[k1]? = some kx := ⟨_, List.getElem?_eq_getElem (by rw [← hn1.out]; exact hlt1)⟩
          obtain ⟨b1, off1, rfl, hb1, hcc, a2, n2, c2, hc2, hX2⟩ := HX1.out.at k1 kx hkx
          rw [← cell_same (hkp.2 b1 hb1)] at hc2 hcc
          have hkI : (0 : Int) ≤ (k1 : Int) := by omega
          have hkI2 : (k1 : Int) < (n1 : Int) := by omega
          have hn2 := Lib.hid hX2.1
          have hm2 : n2 ≤ 9223372036854775807 := by have h1 := hX2.2.1; have h2 := hX2.2.2.1; unfold maxLen at h2; omega
          have HX2 := Lib.hid hX2
          have HJ1 := Lib.hid (HJ.out pre wr _ none hj (World.grownBy_alloc wr (.cells #[.int .i64 kx.1, .slice a2 n2 c2] 95) none) (fun r e => by cases e))
          have HK1 := Lib.hid (show Keeps ok w0 (wr.alloc (.cells #[.int .i64 kx.1, .slice a2 n2 c2] 95)) from ⟨Nat.le_trans hkp.1 (by simp), fun b hb => (Below.heap_alloc _ _ _ (Nat.lt_of_lt_of_le (HLO.out b hb) hkp.1)).trans (hkp.2 b hb)⟩)
          have HSZ := Lib.hid (show W.heap.size ≤ (wr.alloc (.cells #[.int .i64 kx.1, .slice a2 n2 c2] 95)).heap.size from Nat.le_trans hsz (by simp))
          have hta : simplesX (cx.take (k1 + 1)) = simplesX (cx.take k1) ++ kx.2 := by
            unfold simplesX; rw [List.take_add_one, hkx, List.flatMap_append]; simp
          have hmemx : ∀ s ∈ kx.2, V s := fun s hs => HMX.out s (by
            unfold simplesX; rw [List.mem_flatMap]; exact ⟨kx, List.mem_of_getElem? hkx, hs⟩)
          have HTA2 := Lib.hid hta
          have HMX2 := Lib.hid hmemx
          have HP := hp
          clear hp hj hkp hsz hX2 hta hmemx hkx
          gi_wp2
          gi_loopw [25] (fun i wr => ∃ (k2 : Nat) (pre : List (Hx ok d V w0)), k2 ≤ n2 ∧ i = .int .i64 k2 ∧ Hid (pre.map Hx.s = simplesL (x.take k) ++ (simplesX (cx.take k1) ++ kx.2.take k2)) ∧ J pre wr ∧ Keeps ok w0 wr ∧ W.heap.size ≤ wr.heap.size) (fun i _ => n2 - (intOf i).toNat)
          case atStart => exact ⟨0, pre, Nat.zero_le _, rfl, Lib.hid (by rw [HP.out]; simp), HJ1.out, HK1.out, HSZ.out⟩
          case round =>
            clear HP HJ1 HK1 HSZ
            obtain ⟨k2, pre, hk2, rfl, hp, hj, hkp, hsz⟩ := hrel
            by_cases hlt2 : k2 < n2
            · obtain ⟨sx, hsx⟩ : ∃ sx, kx.2[k2]? = some sx := ⟨_, List.getElem?_eq_getElem (by rw [← hn2.out]; exact hlt2)⟩
              obtain ⟨b2, off2, rfl, hb2, ⟨y0, y1, y2, y3, y4, y5, y6, y7, y8, y9⟩, a3, n3, c3, y10, hX3, hfo⟩ := HX2.out.at k2 sx hsx
              rw [← cell_same (hkp.2 b2 hb2)] at y0 y1 y2 y3 y4 y5 y6 y7 y8 y9 y10
              have hkI : (0 : Int) ≤ (k2 : Int) := by omega
              have hkI2 : (k2 : Int) < (n2 : Int) := by omega
              have hJs := HJ.out pre wr _ none hj (World.grownBy_alloc wr (.cells #[.int .i64 sx.1.kind, .int .i64 sx.1.ns, .string sx.1.pre, .string sx.1.name, .int .i64 sx.1.op, .string sx.1.text, .bool sx.1.fold, .int .i64 sx.1.mark, .int .i64 sx.1.a, .int .i64 sx.1.b, .slice a3 n3 c3] 86) none) (fun r e => by cases e)
              have hVs : V (sx.1, sx.2) := HMX2.out _ (List.mem_of_getElem? hsx)
              have hlen : pre.length < (simplesL x).length := by
                have e1 := congrArg List.length hp.out
                have e2 := congrArg List.length HTA.out
                have e3 := congrArg List.length HTA2.out
                have e4 := simplesL_le x (k + 1)
                have e5 := simplesX_le cx (k1 + 1)
                have e6 := hn2.out
                simp only [List.length_map, List.length_append, List.length_take] at e1 e2 e3
                omega
              obtain ⟨fn, tmps, assign, body, hy, hR⟩ := HY.out pre ⟨(sx.1, sx.2, a3, n3, c3), hX3, hVs⟩ _ hJs hlen
              have hK1 : Keeps ok w0 (wr.alloc (.cells #[.int .i64 sx.1.kind, .int .i64 sx.1.ns, .string sx.1.pre, .string sx.1.name, .int .i64 sx.1.op, .string sx.1.text, .bool sx.1.fold, .int .i64 sx.1.mark, .int .i64 sx.1.a, .int .i64 sx.1.b, .slice a3 n3 c3] 86)) := ⟨Nat.le_trans hkp.1 (by simp), fun b hb => (Below.heap_alloc _ _ _ (Nat.lt_of_lt_of_le (HLO.out b hb) hkp.1)).trans (hkp.2 b hb)⟩
              have hS1 : W.heap.size ≤ (wr.alloc (.cells #[.int .i64 sx.1.kind, .int .i64 sx.1.ns, .string sx.1.pre, .string sx.1.name, .int .i64 sx.1.op, .string sx.1.text, .bool sx.1.fold, .int .i64 sx.1.mark, .int .i64 sx.1.a, .int .i64 sx.1.b, .slice a3 n3 c3] 86)).heap.size := Nat.le_trans hsz (by simp)
              have hta : simplesL (x.take k) ++ (simplesX (cx.take k1) ++ kx.2.take (k2 + 1)) = (simplesL (x.take k) ++ (simplesX (cx.take k1) ++ kx.2.take k2)) ++ [sx] := by
                rw [List.take_add_one, hsx]; simp
              have HTA3 := Lib.hid hta
              have HK1 := Lib.hid hK1
              have HS1 := Lib.hid hS1
              have HP := hp
              clear hlen hta hK1 hS1 hJs hj hkp hsz hsx hp
              unfold Hx.v sval at hy
              dsimp only at hy
              gi_wp2
              refine hR.mono ?_
              rintro e W3 (⟨rfl, hJ3, hk3⟩ | ⟨rfl, hJx3⟩)
              · have HJ3 := Lib.hid hJ3
                clear hR hJ3
                gi_wp2
                go_roundw
                case rel => exact ⟨k2 + 1, _, by omega, by go_num, Lib.hid (by rw [List.map_append, HP.out, HTA3.out]; rfl), HJ3.out, HK1.out.trans hk3, Nat.le_trans HS1.out hk3.1⟩
                case measure => simp [intOf]; omega
              · have HJ3 := Lib.hid hJx3
                clear hR hJx3
                gi_wp2
                refine bodyPost_ret (results_none rfl _ _ _) rfl ?_
                exact ⟨⟨_, rfl⟩, .inr ⟨_, HJ3.out⟩⟩
            · obtain rfl : k2 = n2 := by omega
              have HJ3 := Lib.hid hj
              have HK3 := Lib.hid hkp
              have HS3 := Lib.hid hsz
              have HP2 := Lib.hid (show pre.map Hx.s = simplesL (x.take k) ++ simplesX (cx.take (k1 + 1)) from by
                rw [hp.out, HTA2.out, List.take_of_length_le (l := kx.2) (by rw [← hn2.out]; exact Nat.le_refl _)])
              clear hj hkp hsz hp
              gi_wp2
              go_roundw
              case rel => exact ⟨k1 + 1, _, by omega, by go_num, HP2, HJ3.out, HK3.out, HS3.out⟩
              case measure => simp [intOf]; omega
        · obtain rfl : k1 = n1 := by omega
          have HJ3 := Lib.hid hj
          have HK3 := Lib.hid hkp
          have HS3 := Lib.hid hsz
          have HP2 := Lib.hid (show pre.map Hx.s = simplesL (x.take (k + 1)) from by
            rw [hp.out, HTA.out, List.take_of_length_le (l := cx) (by rw [← hn1.out]; exact Nat.le_refl _)])
          clear hj hkp hsz hp
          gi_wp2
          go_roundw
          case rel => exact ⟨k + 1, _, by omega, by go_num, HP2, HJ3.out, HK3.out, HS3.out⟩
          case measure => simp [intOf]; omega
    · obtain rfl : k = m := by omega
      have HJ3 := Lib.hid hj
      have HP2 := Lib.hid (show pre.map Hx.s = simplesL x from by
        rw [hp.out, List.take_of_length_le (by rw [← hmn.out]; exact Nat.le_refl _)])
      clear hj hp
      gi_wp2
      go_end0
      exact ⟨⟨_, rfl⟩, .inl ⟨_, HP2.out, HJ3.out⟩⟩

set_option maxRecDepth 100000 in
set_option maxHeartbeats 1000000 in
theorem simples_in (n : Nat) (a : Option Addr) (m c : Nat) (w : World) :
    CallsIn Fence.wide n Try.prog 72 #[.slice a m c] w fun e w' => e = .returned (.func (.func 90) #[] #[.pointer (some ⟨w.heap.size, 0, none⟩)]) ∧ w' = w.alloc (.cells #[.slice a m c] 50) := by
  refine callsIn_of_wp Try.func72 rfl trivial ?_ rfl
  simp only [Try.ntmps72, List.size_toArray, List.length_cons, List.length_nil, Nat.reduceAdd, Nat.reduceSub, Array.replicate_succ, Array.replicate_zero, List.push_toArray, List.append_toArray, List.nil_append, List.cons_append]
  gi_wp2
  go_ret
  exact ⟨rfl, rfl⟩

theorem cellW_lt {w : World} {b o : Nat} {v : Value} (h : w.cell? ⟨b, o, none⟩ = some v) : b < w.heap.size := World.block_lt_of_cell? w _ h

/-- The iterator hands out the simple selectors in their order. -/
theorem simples_stops (n Bs : Nat) (ok : Nat → Prop) (d : Nat) (V : Flat × Lx d → Prop) (hn : 1 ≤ n) (a : Option Addr) (m c : Nat) (x : List (List (Int × List (Flat × Lx d)))) (w : World)
    (hBs : w.cell? ⟨Bs, 0, none⟩ = some (.slice a m c)) (hx : RdL ok (d + 1) w a m c x) (hV : ∀ s ∈ simplesL x, V s) (hlo : ∀ b, ok b → b < w.heap.size) :
    SeqStopsK Fence.wide n Try.prog 90 #[.pointer (some ⟨Bs, 0, none⟩)] (fun y : Hx ok d V w => #[y.v]) (Keeps ok) (fun ys => ys.map Hx.s = simplesL x) (fun _ => True) (simplesL x).length w :=
  fun l J Jx W hW hJ _ hY h0 =>
    (simples1_in n l Bs ok d V hn a m c x w J Jx W ((hW.cell (p := ⟨Bs, 0, none⟩) (cellW_lt hBs)).trans hBs) ⟨hW.size, fun b hb => hW.block b (hlo b hb)⟩ hx hV hlo hJ hY h0).mono
      fun _ _ ⟨h1, h2⟩ => ⟨h1, h2.imp id fun ⟨pre, h⟩ => ⟨pre, trivial, h⟩⟩
end Go.Proofs.Ytfgnepbpfglepaa
