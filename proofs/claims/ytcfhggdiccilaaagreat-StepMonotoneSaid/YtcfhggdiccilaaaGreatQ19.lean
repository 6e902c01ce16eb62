/- Texts of mine in one: Ec7 Ec9 Eca. -/
import Derived.Test.YtcfhggdiccilaaaGreatQ18
namespace Go.Proofs.YtcfhggdiccilaaaGreat
section
open Go.RowKit
set_option linter.unusedVariables false
set_option linter.unusedSimpArgs false
theorem simp8_any {nm : Nm} {N : NmV} {w : World} (h : NmAt (· < w.heap.size) w N nm) (f : Flat) (a : Option Addr) (n c : Nat) (hn : n ≤ 140737488351232) (hok : FlatOk f) (inner : Bool) (hR : ∀ w', Below w.heap.size w w' → Calls Tryz.prog 42 #[.slice a n c, nmV nm N, .bool false] w' (Told (.bool inner) w')) :
    Calls Tryz.prog 60 #[sval f a n c, nmV nm N] w (Told (.bool (simpB nm f (decide (0 < n)) inner)) w) := by
  obtain ⟨kind, ns, pre, name, op, text, fold, mark, fa, fb⟩ := f
  have hk2 : name.size ≤ 140737488351232 ∧ text.size ≤ 140737488351232 := ⟨hok.2.1, hok.2.2⟩
  by_cases h1 : kind = 1
  · subst h1; exact simp8_1 h ns pre name op text fold mark fa fb a n c hn hk2 inner hR
  by_cases h2 : kind = 2
  · subst h2; exact simp8_2 h ns pre name op text fold mark fa fb a n c hn hk2 inner hR
  by_cases h5 : kind = 5
  · subst h5; exact simp8_5 h ns pre name op text fold mark fa fb a n c hn hk2 inner hR
  by_cases h3 : kind = 3
  · subst h3; exact simp8_3 h ns pre name op text fold mark fa fb a n c hn hk2 inner hR
  by_cases h4 : kind = 4
  · subst h4; exact simp8_4 h ns pre name op text fold mark fa fb a n c hn hk2 inner hR
  by_cases h11 : kind = 11
  · subst h11; exact simp8_11 h ns pre name op text fold mark fa fb a n c hn hk2 inner hR
  by_cases h13 : kind = 13
  · subst h13; exact simp8_13 h ns pre name op text fold mark fa fb a n c hn hk2 inner hR
  by_cases h6 : kind = 6
  · subst h6; exact simp8_6 h ns pre name op text fold mark fa fb a n c hn hk2 inner hR
  by_cases h12 : kind = 12
  · subst h12; exact simp8_12 h ns pre name op text fold mark fa fb a n c hn hk2 inner hR
  by_cases h7 : kind = 7
  · subst h7; exact simp8_7 h ns pre name op text fold mark fa fb a n c hn hk2 inner hR
  by_cases h8 : kind = 8
  · subst h8; exact simp8_8 h ns pre name op text fold mark fa fb a n c hn hk2 inner hR
  by_cases h9 : kind = 9
  · subst h9; exact simp8_9 h ns pre name op text fold mark fa fb a n c hn hk2 inner hR
  by_cases h10 : kind = 10
  · subst h10; exact simp8_10 h ns pre name op text fold mark fa fb a n c hn hk2 inner hR
  exact simp8_else h kind ns pre name op text fold mark fa fb a n c hn hk2 inner hR h1 h2 h5 h3 h4 h11 h13 h6 h12 h7 h8 h9 h10
def lenE : (d : Nat) → Lx d → Nat
  | 0, _ => 0
  | _ + 1, x => List.length x
theorem RdL.lenE {ok : Nat → Prop} {w : World} {a : Option Addr} {n c : Nat} : ∀ {d : Nat} {x : Lx d}, RdL ok d w a n c x → n = Go.Proofs.YtcfhggdiccilaaaGreat.lenE d x ∧ n ≤ 140737488351232
  | 0, _, h => ⟨h.1, by rw [h.1]; omega⟩
  | d + 1, x, h => ⟨h.1, h.2.2.1.2⟩
def sOk (nm : Nm) (outer last : Bool) (m : Nat) (f : Flat) (of inner : Bool) : Bool :=
  simpB nm f of inner && (!(decide (0 < m) && ((f.kind == 1) || (f.kind == 2))) && !((f.kind == 13) && (!outer || !last)))
def combOk (c : Int) (k n : Nat) : Bool := !decide (c < 0) && (!decide (4 < c) && (!((c == 0) != (k == 0)) && !(n == 0)))
section
variable {L : Type} (nm : Nm) (outer : Bool) (ln : L → Nat) (g : L → Bool)
def rightM (last : Bool) (ys : List (Flat × L)) (m : Nat) : Bool := match ys[m]? with
  | some s => sOk nm outer (last && (m + 1 == ys.length)) m s.1 (decide (0 < ln s.2)) (g s.2)
  | none => true
def rightK (x : List (Int × List (Flat × L))) (k : Nat) : Bool := match x[k]? with
  | some kk => combOk kk.1 k kk.2.length && (List.range kk.2.length).all (rightM nm outer ln g (k + 1 == x.length) kk.2)
  | none => true
def rightX (x : List (Int × List (Flat × L))) : Bool := (List.range x.length).all (rightK nm outer ln g x) && decide (0 < x.length)
end
def rightL (nm : Nm) : (d : Nat) → Bool → Lx d → Bool
  | 0, _, _ => false
  | d + 1, outer, xs => List.all xs (rightX nm outer (lenE d) (rightL nm d false)) && decide (0 < List.length xs)
theorem rAll_succ (f : Nat → Bool) (k : Nat) : (List.range (k + 1)).all f = ((List.range k).all f && f k) := by rw [List.range_succ, List.all_append]; simp
theorem rAll_false {f : Nat → Bool} {k n : Nat} (h : f k = false) (hk : k < n) : (List.range n).all f = false := by
  rw [List.all_eq_false]
  exact ⟨k, List.mem_range.2 hk, by simp [h]⟩
theorem xAll_false {α : Type} {f : α → Bool} {l : List α} {x : α} (hx : x ∈ l) (h : f x = false) : l.all f = false := by
  rw [List.all_eq_false]
  exact ⟨x, hx, by simp [h]⟩
theorem xAll_take {α : Type} {f : α → Bool} {l : List α} {k : Nat} {x : α} (hx : l[k]? = some x) : (l.take (k + 1)).all f = ((l.take k).all f && f x) := by
  rw [List.take_add_one, hx, List.all_append]; simp
end

section
open Go.RowKit
set_option linter.unusedVariables false
set_option linter.unusedSimpArgs false
def deepO {d : Nat} (g : Lx d → Nat) (t : Nat) (s : Flat × Lx d) : Nat := if 0 < lenE d s.2 then max t (g s.2) else t
def deepE : (d : Nat) → Lx d → Nat
  | 0, _ => 1
  | d + 1, xs => (simplesL xs).foldl (deepO (deepE d)) 0 + 1
theorem deepO_le {d : Nat} {g : Lx d → Nat} {M : Nat} (hg : ∀ l, g l ≤ M) : ∀ (ys : List (Flat × Lx d)) (t : Nat), t ≤ M → ys.foldl (deepO g) t ≤ M
  | [], t, h => h
  | s :: ys, t, h => by
    rw [List.foldl_cons]
    refine deepO_le hg ys _ ?_
    unfold deepO
    split
    · exact Nat.max_le.2 ⟨h, hg _⟩
    · exact h
theorem deepE_le : ∀ (d : Nat) (l : Lx d), deepE d l ≤ d + 1
  | 0, _ => Nat.le_refl _
  | d + 1, xs => Nat.succ_le_succ (deepO_le (fun l => deepE_le d l) _ 0 (Nat.zero_le _))
theorem take_snoc8 {α : Type} {l : List α} {k : Nat} {x : α} (h : l[k]? = some x) : l.take (k + 1) = l.take k ++ [x] := by rw [List.take_add_one, h]; rfl
def DeepW (d : Nat) (l : Lx d) : Prop := ∀ (a : Option Addr) (n c : Nat) (w : World), RdL (· < w.heap.size) d w a n c l → Calls Tryz.prog 41 #[.slice a n c] w (Told (.int .i64 (deepE d l : Nat)) w)
set_option maxRecDepth 100000 in
set_option maxHeartbeats 4000000 in
theorem deep8_step (d : Nat) (hd : d ≤ 1000) (xs : List (List (Int × List (Flat × Lx d)))) (IH : ∀ s ∈ simplesL xs, DeepW d s.2) (a : Option Addr) (n c : Nat) (w : World) (hx : RdL (· < w.heap.size) (d + 1) w a n c xs) :
    Calls Tryz.prog 41 #[.slice a n c] w (Told (.int .i64 (((simplesL xs).foldl (deepO (deepE d)) 0 + 1 : Nat) : Int)) w) := by
  have hx : RsOf (· < w.heap.size) 1 (ComplexAt (· < w.heap.size) (RdL (· < w.heap.size) d w) w) a n c xs := hx
  have HX := Lib.hid hx
  have HXN := Lib.hid hx.1
  have hnm : n ≤ 140737488351232 := hx.2.2.1.2
  have HIH := Lib.hid IH
  have HLE := Lib.hid (fun (ys : List (Flat × Lx d)) => deepO_le (g := deepE d) (M := d + 1) (fun l => deepE_le d l) ys 0 (Nat.zero_le _))
  clear hx IH
  go_enter Tryz.func41, Tryz.ntmps41
  go_wp2
  go_loopw [3, 4] (fun tv iv wr => ∃ i : Nat, i ≤ n ∧ iv = .int .i64 i ∧ tv = .int .i64 (((simplesL (xs.take i)).foldl (deepO (deepE d)) 0 : Nat) : Int) ∧ Hid (Below w.heap.size w wr)) (fun _ iv _ => n - (intOf iv).toNat)
  case atStart => exact ⟨0, Nat.zero_le _, rfl, rfl, Lib.hid (Below.refl _ _)⟩
  case round =>
    obtain ⟨i, hi, rfl, rfl, HB⟩ := hrel
    obtain ⟨wo, hwo⟩ : ∃ wo, wo = wr := ⟨_, rfl⟩
    subst hwo
    by_cases hlt : i < n
    · obtain ⟨cx, hcx⟩ : ∃ cx, xs[i]? = some cx := ⟨_, List.getElem?_eq_getElem (by rw [← HXN.out]; exact hlt)⟩
      obtain ⟨b, off, rfl, hb, ka, kn, kc, hk1, hk2⟩ := HX.out.at i cx hcx
      rw [Nat.mul_one] at hk1
      have HK1 := Lib.hid (And.intro (show b < w.heap.size from hb) hk1)
      have hiI : (0 : Int) ≤ (i : Int) := by omega
      have hiI2 : (i : Int) < (n : Int) := by omega
      have hknm : kn ≤ 140737488351232 := hk2.2.2.1.2
      have HKN := Lib.hid (show kn = cx.length from hk2.1)
      have HK2 := Lib.hid hk2
      have HMX := Lib.hid (List.mem_of_getElem? hcx)
      obtain ⟨pre, hpre⟩ : ∃ pre, simplesL (xs.take i) = pre := ⟨_, rfl⟩
      have HPX := Lib.hid (show simplesL (xs.take (i + 1)) = pre ++ simplesX cx from by rw [← hpre]; unfold simplesL; rw [List.take_add_one, hcx, List.flatMap_append]; simp)
      rw [hpre]
      clear hk1 hk2 hcx hb hpre
      go_wp2
      go_loopw [3, 5] (fun tv kv wr => ∃ k : Nat, k ≤ kn ∧ kv = .int .i64 k ∧ tv = .int .i64 (((pre ++ simplesX (cx.take k)).foldl (deepO (deepE d)) 0 : Nat) : Int) ∧ Hid (Below w.heap.size w wr)) (fun _ kv _ => kn - (intOf kv).toNat)
      case atStart => exact ⟨0, Nat.zero_le _, rfl, by rw [show simplesX (cx.take 0) = [] from rfl, List.append_nil], HB⟩
      case round =>
        obtain ⟨k, hk, rfl, rfl, HB2⟩ := hrel
        obtain ⟨wk, hwk⟩ : ∃ wk, wk = wr := ⟨_, rfl⟩
        subst hwk
        have u0 : wk.cell? ⟨b, off + i, none⟩ = some (.slice ka kn kc) := (HB2.out.cell (p := ⟨b, off + i, none⟩) HK1.out.1).trans HK1.out.2
        by_cases hlt2 : k < kn
        · obtain ⟨⟨cc, ys⟩, hkk⟩ : ∃ kk, cx[k]? = some kk := ⟨_, List.getElem?_eq_getElem (by rw [← HKN.out]; exact hlt2)⟩
          obtain ⟨b2, off2, rfl, hb2, hc0, ya, yn, yc, hc1, hys⟩ := HK2.out.at k _ hkk
          have HC1 := Lib.hid (And.intro (show b2 < w.heap.size from hb2) hc1)
          have hkI : (0 : Int) ≤ (k : Int) := by omega
          have hkI2 : (k : Int) < (kn : Int) := by omega
          have hynm : yn ≤ 140737488351232 := hys.2.2.1.2
          have HYN := Lib.hid (show yn = ys.length from hys.1)
          have HYS := Lib.hid hys
          have HMK := Lib.hid (List.mem_of_getElem? hkk)
          obtain ⟨pr2, hpr2⟩ : ∃ pr2, pre ++ simplesX (cx.take k) = pr2 := ⟨_, rfl⟩
          have HPK := Lib.hid (show pre ++ simplesX (cx.take (k + 1)) = pr2 ++ ys from by rw [← hpr2, List.append_assoc]; unfold simplesX; rw [List.take_add_one, hkk, List.flatMap_append]; simp)
          rw [hpr2]
          clear hc0 hc1 hkk hys hb2 hpr2
          go_wp2
          go_loopw [3, 6] (fun tv mv wr => ∃ m : Nat, m ≤ yn ∧ mv = .int .i64 m ∧ tv = .int .i64 (((pr2 ++ ys.take m).foldl (deepO (deepE d)) 0 : Nat) : Int) ∧ Hid (Below w.heap.size w wr)) (fun _ mv _ => yn - (intOf mv).toNat)
          case atStart => exact ⟨0, Nat.zero_le _, rfl, by rw [List.take_zero, List.append_nil], HB2⟩
          case round =>
            obtain ⟨m, hm, rfl, rfl, HB3⟩ := hrel
            have u1 : wr.cell? ⟨b, off + i, none⟩ = some (.slice (some ⟨b2, off2, none⟩) kn kc) := (HB3.out.cell (p := ⟨b, off + i, none⟩) HK1.out.1).trans HK1.out.2
            have v1 : wr.cell? ⟨b2, off2 + k * 2 + 1, none⟩ = some (.slice ya yn yc) := (HB3.out.cell (p := ⟨b2, off2 + k * 2 + 1, none⟩) HC1.out.1).trans HC1.out.2
            obtain ⟨t, ht⟩ : ∃ t, (pr2 ++ ys.take m).foldl (deepO (deepE d)) 0 = t := ⟨_, rfl⟩
            have htl : t ≤ d + 1 := by rw [← ht]; exact HLE.out _
            by_cases hlt3 : m < yn
            · obtain ⟨⟨f, l⟩, hs⟩ : ∃ s, ys[m]? = some s := ⟨_, List.getElem?_eq_getElem (by rw [← HYN.out]; exact hlt3)⟩
              obtain ⟨b3, off3, rfl, hb3, hF, sa, sn, sc, hs10, hl, hfok⟩ := HYS.out.at m (f, l) hs
              have e10 : wr.cell? ⟨b3, off3 + m * 11 + 10, none⟩ = some (.slice sa sn sc) := (HB3.out.cell (p := ⟨b3, off3 + m * 11 + 10, none⟩) hb3).trans hs10
              have hmI : (0 : Int) ≤ (m : Int) := by omega
              have hmI2 : (m : Int) < (yn : Int) := by omega
              have hln := RdL.lenE hl
              have hln1 : sn = lenE d l := hln.1
              have hmem : (f, l) ∈ simplesL xs := List.mem_flatMap.2 ⟨cx, HMX.out, List.mem_flatMap.2 ⟨(cc, ys), HMK.out, List.mem_of_getElem? hs⟩⟩
              have fD := HIH.out (f, l) hmem sa sn sc wr (RdL.move (fun b hb => ⟨Nat.lt_of_lt_of_le hb HB3.out.size, HB3.out.block b hb⟩) hl)
              have HST := Lib.hid (show (pr2 ++ ys.take (m + 1)).foldl (deepO (deepE d)) 0 = deepO (deepE d) t (f, l) from by rw [take_snoc8 hs, ← List.append_assoc, List.foldl_append, ht]; rfl)
              obtain ⟨q, hq⟩ : ∃ q, deepE d l = q := ⟨_, rfl⟩
              have hql : q ≤ d + 1 := by rw [← hq]; exact deepE_le d l
              have hsn : sn ≤ 140737488351232 := hln.2
              dsimp only at fD
              rw [hq] at fD
              rw [ht]
              by_cases h0 : 0 < sn
              · have q0 : decide ((0 : Int) < (sn : Int)) = true := decide_eq_true (by omega)
                have hd1 : deepO (deepE d) t (f, l) = max t q := by unfold deepO; rw [if_pos (by show 0 < lenE d l; omega), hq]
                have HD1 := Lib.hid (show (pr2 ++ ys.take (m + 1)).foldl (deepO (deepE d)) 0 = max t q from HST.out.trans hd1)
                have hmx : ((max t q : Nat) : Int) = max (t : Int) (q : Int) := by omega
                have HMX2 := Lib.hid hmx
                clear hs hF hs10 hl hfok hln hln1 hmem ht hq hd1 hmx hb3
                go_wp2_with (go_at_call 41; (with_reducible refine fD.mono ?_); rintro e w6 ⟨rfl, hb6⟩; have H6 := Lib.hid (HB3.out.trans (hb6.mono HB3.out.size)))
                all_goals
                  go_roundw
                  case rel => exact ⟨m + 1, by omega, by go_num, by rw [HD1.out, HMX2.out]; first | rfl | (congr 1; omega), H6⟩
                  case measure => simp [intOf]; omega
              · have q0 : decide ((0 : Int) < (sn : Int)) = false := decide_eq_false (by omega)
                have hd1 : deepO (deepE d) t (f, l) = t := by unfold deepO; rw [if_neg (by show ¬ 0 < lenE d l; omega)]
                have HD1 := Lib.hid (show (pr2 ++ ys.take (m + 1)).foldl (deepO (deepE d)) 0 = t from HST.out.trans hd1)
                clear hs hF hs10 hl hfok hln hln1 hmem ht hq hd1 hb3
                go_wp2
                go_roundw
                case rel => exact ⟨m + 1, by omega, by go_num, by rw [HD1.out], HB3⟩
                case measure => simp [intOf]; omega
            · obtain rfl : m = yn := by omega
              have hmI2 : ¬ (m : Int) < (m : Int) := by omega
              have HPF := Lib.hid (show pre ++ simplesX (cx.take (k + 1)) = pr2 ++ ys.take m from by rw [HPK.out, List.take_of_length_le (by rw [← HYN.out]; exact Nat.le_refl _)])
              go_wp2
              go_roundw
              case rel => exact ⟨k + 1, by omega, by go_num, by rw [HPF.out], HB3⟩
              case measure => simp [intOf]; omega
        · obtain rfl : k = kn := by omega
          have hkI2 : ¬ (k : Int) < (k : Int) := by omega
          have HPF := Lib.hid (show simplesL (xs.take (i + 1)) = pre ++ simplesX (cx.take k) from by rw [HPX.out, List.take_of_length_le (by rw [← HKN.out]; exact Nat.le_refl _)])
          go_wp2
          go_roundw
          case rel => exact ⟨i + 1, by omega, by go_num, by rw [HPF.out], HB2⟩
          case measure => simp [intOf]; omega
    · obtain rfl : i = n := by omega
      have hiI2 : ¬ (i : Int) < (i : Int) := by omega
      have hT : xs.take i = xs := List.take_of_length_le (by rw [← HXN.out]; exact Nat.le_refl _)
      rw [hT]
      have hle := HLE.out (simplesL xs)
      generalize (simplesL xs).foldl (deepO (deepE d)) 0 = t at *
      go_wp2
      go_ret
      exact ⟨by first | rfl | (congr 1; omega), HB.out⟩
theorem deep8_any : ∀ (d : Nat), d ≤ 1000 → ∀ l : Lx d, DeepW d l
  | 0, _, l => fun a n c w hx => by
    obtain ⟨rfl, hc⟩ := hx
    exact deep8_step 0 (by omega) [] (fun s h => by cases h) a 0 c w ⟨rfl, Nat.zero_le _, ⟨hc, by omega⟩, .inl rfl⟩
  | d + 1, hd, l => fun a n c w hx => deep8_step d (by omega) l (fun s _ => deep8_any d (by omega) s.2) a n c w hx
end

section
open Go.RowKit
set_option linter.unusedVariables false
set_option linter.unusedSimpArgs false
def checkE (nm : Nm) (d : Nat) (l : Lx d) : Int := if namesB nm = false then 11 else if 32 < deepE d l then 12 else if rightL nm d true l = false then 10 else 0
set_option maxRecDepth 100000 in
set_option maxHeartbeats 4000000 in
theorem check8_any {nm : Nm} {N : NmV} {d : Nat} (hd : d ≤ 1000) (l : Lx d) (hRt : ∀ (a : Option Addr) (n c : Nat) (w' : World), NmAt (· < w'.heap.size) w' N nm → RdL (· < w'.heap.size) d w' a n c l → Calls Tryz.prog 42 #[.slice a n c, nmV nm N, .bool true] w' (Told (.bool (rightL nm d true l)) w'))
    {a : Option Addr} {n c : Nat} {w : World} (hN : NmAt (· < w.heap.size) w N nm) (hok : NmOk nm) (hx : RdL (· < w.heap.size) d w a n c l) :
    Calls Tryz.prog 25 #[.slice a n c, nmV nm N] w (Told (.int .i64 (checkE nm d l)) w) := by
  have hb0 := (Below.refl w.heap.size w).alloc (Nat.le_refl _) (.cells #[.bool nm.hd, .string nm.df, .slice N.pa N.pn N.pc, .slice N.sa N.sn N.sc] 25)
  have HB0 := Lib.hid hb0
  have D0 := Lib.hid (show Blk (w.alloc (.cells #[.bool nm.hd, .string nm.df, .slice N.pa N.pn N.pc, .slice N.sa N.sn N.sc] 25)) w.heap.size [.bool nm.hd, .string nm.df, .slice N.pa N.pn N.pc, .slice N.sa N.sn N.sc] 25 from Blk.alloc [.bool nm.hd, .string nm.df, .slice N.pa N.pn N.pc, .slice N.sa N.sn N.sc] _)
  have z0 := D0.out.cell 0 _ rfl
  have z1 := D0.out.cell 1 _ rfl
  have z2 := D0.out.cell 2 _ rfl
  have z3 := D0.out.cell 3 _ rfl
  have hNm : ∀ w', Below w.heap.size w w' → NmAt (· < w'.heap.size) w' N nm := fun w' hb => hN.move (fun b h => ⟨Nat.lt_of_lt_of_le h hb.size, hb.block b h⟩)
  have hXm : ∀ w', Below w.heap.size w w' → RdL (· < w'.heap.size) d w' a n c l := fun w' hb => RdL.move (fun b h => ⟨Nat.lt_of_lt_of_le h hb.size, hb.block b h⟩) hx
  have FN := names8_any (hNm _ hb0) hok
  have FD := Lib.hid (fun w' (hb : Below w.heap.size w w') => deep8_any d hd l a n c w' (hXm w' hb))
  have FR := Lib.hid (fun w' (hb : Below w.heap.size w w') => hRt a n c w' (hNm w' hb) (hXm w' hb))
  have hdl := deepE_le d l
  unfold checkE
  generalize namesB nm = nb at *
  generalize deepE d l = dp at *
  generalize rightL nm d true l = rt at *
  unfold nmV at *
  clear hN hx hb0 hRt hNm hXm
  cases nb with
  | false =>
    rw [if_pos rfl]
    go_enter Tryz.func25, Tryz.ntmps25
    go_wp2_with (go_at_call 36; (with_reducible refine FN.mono ?_); rintro e w1 ⟨rfl, hb1⟩; have H1 := Lib.hid (HB0.out.trans (hb1.mono HB0.out.size)))
    go_ret
    exact ⟨rfl, H1.out⟩
  | true =>
    rw [if_neg (by simp)]
    by_cases h32 : 32 < dp
    · rw [if_pos h32]
      have q1 : decide ((32 : Int) < (dp : Int)) = true := decide_eq_true (by omega)
      go_enter Tryz.func25, Tryz.ntmps25
      go_wp2_with (first
        | (go_at_call 36; (with_reducible refine FN.mono ?_); rintro e w1 ⟨rfl, hb1⟩; have H1 := Lib.hid (HB0.out.trans (hb1.mono HB0.out.size)))
        | (go_at_call 41; (with_reducible refine (FD.out _ H1.out).mono ?_); rintro e w2 ⟨rfl, hb2⟩; have H2 := Lib.hid (H1.out.trans (hb2.mono H1.out.size))))
      go_ret
      exact ⟨rfl, H2.out⟩
    · rw [if_neg h32]
      have q1 : decide ((32 : Int) < (dp : Int)) = false := decide_eq_false (by omega)
      cases rt
      all_goals
        go_enter Tryz.func25, Tryz.ntmps25
        go_wp2_with (first
          | (go_at_call 36; (with_reducible refine FN.mono ?_); rintro e w1 ⟨rfl, hb1⟩; have H1 := Lib.hid (HB0.out.trans (hb1.mono HB0.out.size)); have D1 := Lib.hid (D0.out.later hb1 D0.out.lt))
          | (go_at_call 41; (with_reducible refine (FD.out _ H1.out).mono ?_); rintro e w2 ⟨rfl, hb2⟩; have H2 := Lib.hid (H1.out.trans (hb2.mono H1.out.size)); have D2 := Lib.hid (D1.out.later hb2 D1.out.lt); have y0 := D2.out.cell 0 _ rfl; have y1 := D2.out.cell 1 _ rfl; have y2 := D2.out.cell 2 _ rfl; have y3 := D2.out.cell 3 _ rfl)
          | (go_at_call 42; (with_reducible refine (FR.out _ H2.out).mono ?_); rintro e w3 ⟨rfl, hb3⟩; have H3 := Lib.hid (H2.out.trans (hb3.mono H2.out.size))))
        go_ret
        exact ⟨by simp, H3.out⟩
end
end Go.Proofs.YtcfhggdiccilaaaGreat
