/- Texts of mine in one: Has NthP Nga. -/
import Derived.Test.YtcfhggdiccilaaaGreatQ01
import Derived.Deep.OwnRows
import Derived.Deep.RegionHeld3
import Derived.IntWalk
namespace Go.Proofs.YtcfhggdiccilaaaGreat
section
open Go.RowKit
theorem u64_wrap (x : Int) : IntKind.u64.wrap x = x % 18446744073709551616 := rfl
end

section
structure LeastP (S : Nat → Bool) (h p : Nat) : Prop where
  pos : 1 ≤ p
  per : ∀ n, h < n → S (n + p) = S n
  head : h = 0 ∨ S h ≠ S (h + p)
  least : ∀ q, 1 ≤ q → (∃ k, ∀ n, k < n → S (n + q) = S n) → p ≤ q
theorem LeastP.congr {S T : Nat → Bool} {h p : Nat} (L : LeastP S h p) (e : ∀ n, 1 ≤ n → S n = T n) : LeastP T h p where
  pos := L.pos
  per := fun n hn => by rw [← e n (by omega), ← e (n + p) (by omega)]; exact L.per n hn
  head := by
    rcases L.head with m | m
    · exact .inl m
    · rcases Nat.eq_zero_or_pos h with z | z
      · exact .inl z
      · rw [e h z, e (h + p) (by omega)] at m; exact .inr m
  least := fun q hq ⟨k, hk⟩ => L.least q hq ⟨k, fun n hn => by rw [e n (by omega), e (n + q) (by omega)]; exact hk n hn⟩
theorem LeastP.not {S : Nat → Bool} {h p : Nat} (L : LeastP S h p) : LeastP (fun n => !S n) h p where
  pos := L.pos
  per := fun n hn => by show (!S (n + p)) = !S n; rw [L.per n hn]
  head := by
    rcases L.head with m | m
    · exact .inl m
    · exact .inr (fun x => m (by simpa using x))
  least := fun q hq ⟨k, hk⟩ => L.least q hq ⟨k, fun n hn => by simpa using hk n hn⟩
end

section
open Go.RowKit
def ToldB (v : Value) (w : World) (e : Ending) (w' : World) : Prop := e = .returned v ∧ Below w.heap.size w w'
def foldI (h p n : Int) : Int := if n ≤ h then n else h + 1 + (n - h - 1) % p
set_option maxRecDepth 100000 in
set_option maxHeartbeats 1000000 in
theorem fold_any (h p n : Int) (w : World) (hh : 0 ≤ h ∧ h ≤ 4611686018427387904) (hp : 1 ≤ p ∧ p ≤ 4611686018427387904) (hn : -9223372036854775808 ≤ n ∧ n ≤ 4611686018427387904) :
    Calls Tryz.prog 35 #[.int .i64 h, .int .i64 p, .int .i64 n] w fun e w' => e = .returned (.int .i64 (foldI h p n)) ∧ w' = w := by
  obtain ⟨h1, h2⟩ := hh
  obtain ⟨p1, p2⟩ := hp
  obtain ⟨n1, n2⟩ := hn
  by_cases c : n ≤ h
  · have e : foldI h p n = n := if_pos c
    rw [e]
    clear e
    go_enter Tryz.func35, Tryz.ntmps35
    go_wp2
    go_ret
    exact ⟨rfl, rfl⟩
  · have e : foldI h p n = h + 1 + (n - h - 1) % p := if_neg c
    rw [e]
    clear e
    have hm1 := Int.emod_nonneg (n - h - 1) (show p ≠ 0 by omega)
    have hm2 : (n - h - 1) % p ≤ n - h - 1 := by
      have := Int.emod_def (n - h - 1) p
      have hq : 0 ≤ (n - h - 1) / p := Int.ediv_nonneg (by omega) (by omega)
      have := Int.mul_nonneg (show 0 ≤ p by omega) hq
      omega
    have c' : h < n := by omega
    have hw1 : IntKind.u64.wrap (n - h) = n - h := by rw [u64_wrap]; omega
    have hw2 : IntKind.u64.wrap (n - h - 1) = n - h - 1 := by rw [u64_wrap]; omega
    have hne : (p == 0) = false := beq_eq_false_iff_ne.2 (by omega)
    have hw3 : wrap64 ((n - h - 1) % p) = (n - h - 1) % p := by unfold wrap64; omega
    have hw4 : wrap64 (h + 1 + (n - h - 1) % p) = h + 1 + (n - h - 1) % p := by unfold wrap64; omega
    go_enter Tryz.func35, Tryz.ntmps35
    go_wp2
    go_ret
    exact ⟨rfl, rfl⟩
set_option maxRecDepth 100000 in
set_option maxHeartbeats 1000000 in
theorem divisor_any (a b : Nat) (w : World) (ha : a ≤ 4611686018427387904) (hb : b ≤ 4611686018427387904) :
    Calls Tryz.prog 67 #[.int .i64 a, .int .i64 b] w (ToldB (.int .i64 (Nat.gcd a b : Nat)) w) := by
  obtain ⟨g, hg⟩ : ∃ g, Nat.gcd a b = g := ⟨_, rfl⟩
  have HG := Lib.hid hg
  rw [hg]
  clear hg
  go_enter Tryz.func67, Tryz.ntmps67
  go_wp2
  go_loopw [0, 1] (fun u v wr => ∃ x y : Nat, u = .int .i64 x ∧ v = .int .i64 y ∧ Hid (Nat.gcd x y = g) ∧ x ≤ 4611686018427387904 ∧ y ≤ 4611686018427387904 ∧ Below w.heap.size w wr) (fun _ v _ => (intOf v).toNat)
  case atStart => exact ⟨a, b, rfl, rfl, HG, ha, hb, Below.refl _ _⟩
  case round =>
    obtain ⟨x, y, rfl, rfl, hg, hx, hy, hbl⟩ := hrel
    by_cases hy0 : 0 < y
    · have hlt : x % y < y := Nat.mod_lt _ hy0
      have hne : ((y : Int) == 0) = false := beq_eq_false_iff_ne.2 (by omega)
      have hG := Lib.hid (show Nat.gcd y (x % y) = g by rw [← hg.out, Nat.gcd_comm x y, Nat.gcd_rec y x, Nat.gcd_comm])
      have hE : (x : Int) % (y : Int) = ((x % y : Nat) : Int) := by simp
      have hb1 : (0 : Int) ≤ (x : Int) % (y : Int) ∧ (x : Int) % (y : Int) < y := by rw [hE]; omega
      obtain ⟨m1, m2⟩ := hb1
      have HE := Lib.hid hE
      clear hE hg
      go_wp2_with fail
      go_quiet (fail)
      go_wp2
      go_roundw
      case rel => exact ⟨y, x % y, rfl, by rw [HE.out], hG, hy, by omega, below_drewN hbl _⟩
      case measure => simp [intOf]; omega
    · obtain rfl : y = 0 := by omega
      obtain rfl : x = g := by have := hg.out; simpa using this
      clear hg HG
      go_wp2
      go_ret
      exact ⟨rfl, hbl⟩
def mulF (a b : Nat) : Nat := if 4611686018427387904 / b < a / Nat.gcd a b then 4611686018427387904 else a / Nat.gcd a b * b
theorem mulF_le (a b : Nat) (_hb : 1 ≤ b) : mulF a b ≤ 4611686018427387904 := by
  unfold mulF
  split
  · omega
  · rename_i h
    have h1 : a / Nat.gcd a b ≤ 4611686018427387904 / b := by omega
    exact Nat.le_trans (Nat.mul_le_mul_right b h1) (Nat.div_mul_le_self _ _)
theorem mulF_pos (a b : Nat) (ha : 1 ≤ a) (hb : 1 ≤ b) : 1 ≤ mulF a b := by
  unfold mulF
  split
  · omega
  · have : 0 < a / Nat.gcd a b := Nat.div_pos (Nat.gcd_le_left _ (by omega)) (Nat.gcd_pos_of_pos_left _ (by omega))
    exact Nat.mul_pos this hb
set_option maxRecDepth 100000 in
set_option maxHeartbeats 1000000 in
theorem multiple_any (a b : Nat) (w : World) (ha : 1 ≤ a ∧ a ≤ 4611686018427387904) (hb : 1 ≤ b ∧ b ≤ 4611686018427387904) :
    Calls Tryz.prog 48 #[.int .i64 a, .int .i64 b] w (ToldB (.int .i64 (mulF a b : Nat)) w) := by
  obtain ⟨a1, a2⟩ := ha
  obtain ⟨b1, b2⟩ := hb
  have hD := fun w => divisor_any a b w a2 b2
  have hg : 0 < Nat.gcd a b := Nat.gcd_pos_of_pos_left _ (by omega)
  have hM : mulF a b = if 4611686018427387904 / b < a / Nat.gcd a b then 4611686018427387904 else a / Nat.gcd a b * b := rfl
  have hle := mulF_le a b b1
  have ht : a / Nat.gcd a b ≤ a := Nat.div_le_self _ _
  generalize mulF a b = M at *
  generalize Nat.gcd a b = g at *
  have hdiv : (a : Int) / (g : Int) = ((a / g : Nat) : Int) := by simp
  have hdiv2 : (4611686018427387904 : Int) / (b : Int) = ((4611686018427387904 / b : Nat) : Int) := by simp
  have hq : 4611686018427387904 / b ≤ 4611686018427387904 := Nat.div_le_self _ _
  generalize a / g = t at *
  generalize hqq : 4611686018427387904 / b = q at *
  have nb : ((b : Int) == 0) = false := beq_eq_false_iff_ne.2 (by omega)
  have ng : ((g : Int) == 0) = false := beq_eq_false_iff_ne.2 (by omega)
  clear hqq
  by_cases hc : q < t
  · rw [if_pos hc] at hM
    subst hM
    have hc' : (q : Int) < (t : Int) := by omega
    go_enter Tryz.func48, Tryz.ntmps48
    go_wp2_with (go_at_call 67; refine (hD _).mono ?_; rintro e w1 ⟨rfl, hb1⟩)
    go_ret
    exact ⟨rfl, hb1⟩
  · rw [if_neg hc] at hM
    have hm : (t : Int) * (b : Int) = ((M : Nat) : Int) := by rw [hM]; simp
    have hc' : ¬ (q : Int) < (t : Int) := by omega
    have hmw : wrap64 ((t : Int) * (b : Int)) = M := by rw [hm]; unfold wrap64; omega
    have HM := Lib.hid hM
    clear hM hm
    go_enter Tryz.func48, Tryz.ntmps48
    go_wp2_with (go_at_call 67; refine (hD _).mono ?_; rintro e w1 ⟨rfl, hb1⟩)
    go_ret
    exact ⟨ret_int hmw, hb1⟩
def RdP (w : World) (a : Option Addr) (xs : List (Int × Int)) : Prop :=
  xs = [] ∨ ∃ b off, a = some ⟨b, off, none⟩ ∧ b < w.heap.size ∧ ∀ i x, xs[i]? = some x → w.cell? ⟨b, off + i * 2, none⟩ = some (.int .i64 x.1) ∧ w.cell? ⟨b, off + i * 2 + 1, none⟩ = some (.int .i64 x.2)
theorem RdP.later {w w' : World} {a : Option Addr} {xs : List (Int × Int)} (h : RdP w a xs) (hb : Below w.heap.size w w') : RdP w' a xs := by
  rcases h with h | ⟨b, off, rfl, hlt, hc⟩
  · exact .inl h
  · exact .inr ⟨b, off, rfl, Nat.lt_of_lt_of_le hlt hb.size, fun i x hi => ⟨(hb.cell (p := ⟨b, off + i * 2, none⟩) hlt).trans (hc i x hi).1, (hb.cell (p := ⟨b, off + i * 2 + 1, none⟩) hlt).trans (hc i x hi).2⟩⟩
def Fits (xs : List (Int × Int)) : Prop := ∀ x ∈ xs, (-1099511627776 ≤ x.1 ∧ x.1 ≤ 1099511627776) ∧ (-1099511627776 ≤ x.2 ∧ x.2 ≤ 1099511627776)
def spanH (a b : Int) : Nat := if 0 < a then (max 1 b - 1).toNat else (max 0 b).toNat
def spanR (a : Int) : Nat := max a.natAbs 1
def spanStep (s : Nat × Nat) (x : Int × Int) : Nat × Nat := (max s.1 (spanH x.1 x.2), mulF s.2 (spanR x.1))
def spanF (xs : List (Int × Int)) : Nat × Nat := xs.foldl spanStep (0, 1)
theorem take_snocP {xs : List (Int × Int)} {k : Nat} {x : Int × Int} (h : xs[k]? = some x) : xs.take (k + 1) = xs.take k ++ [x] := by
  rw [List.take_add_one, h]; rfl
theorem spanF_snoc (xs : List (Int × Int)) (x : Int × Int) : spanF (xs ++ [x]) = spanStep (spanF xs) x := by unfold spanF; rw [List.foldl_append]; rfl
theorem spanF_bd (xs : List (Int × Int)) (hx : Fits xs) : (spanF xs).1 ≤ 1099511627776 ∧ 1 ≤ (spanF xs).2 ∧ (spanF xs).2 ≤ 4611686018427387904 := by
  unfold spanF
  suffices h : ∀ (ys : List (Int × Int)) (s : Nat × Nat), Fits ys → s.1 ≤ 1099511627776 ∧ 1 ≤ s.2 ∧ s.2 ≤ 4611686018427387904 → (ys.foldl spanStep s).1 ≤ 1099511627776 ∧ 1 ≤ (ys.foldl spanStep s).2 ∧ (ys.foldl spanStep s).2 ≤ 4611686018427387904 from
    h xs (0, 1) hx (by simp)
  intro ys
  induction ys with
  | nil => intro s _ h; exact h
  | cons y ys ih =>
    intro s hy hs
    refine ih _ (fun z hz => hy z (List.mem_cons_of_mem _ hz)) ⟨?_, mulF_pos _ _ hs.2.1 (by unfold spanR; omega), mulF_le _ _ (by unfold spanR; omega)⟩
    have := hy y (List.mem_cons_self ..)
    show max s.1 (spanH y.1 y.2) ≤ _
    unfold spanH
    split <;> omega
set_option maxRecDepth 100000 in
set_option maxHeartbeats 1000000 in
theorem spanHead_any (a b : Int) (w : World) (ha : -1099511627776 ≤ a ∧ a ≤ 1099511627776) (hb : -1099511627776 ≤ b ∧ b ≤ 1099511627776) :
    Calls Tryz.prog 47 #[.agg #[.int .i64 a, .int .i64 b]] w (ToldB (.int .i64 (spanH a b : Nat)) w) := by
  obtain ⟨a1, a2⟩ := ha
  obtain ⟨b1, b2⟩ := hb
  by_cases h : 0 < a
  · have e1 : ((spanH a b : Nat) : Int) = max 1 b - 1 := by unfold spanH; rw [if_pos h]; omega
    rw [e1]
    clear e1
    by_cases hb : 1 < b
    all_goals
      go_enter Tryz.func47, Tryz.ntmps47
      go_wp2
      go_ret
      exact ⟨ret_int (by omega), (Below.refl _ w).alloc (Nat.le_refl _) _⟩
  · have e1 : ((spanH a b : Nat) : Int) = max 0 b := by unfold spanH; rw [if_neg h]; omega
    rw [e1]
    clear e1
    by_cases hb : 0 < b
    all_goals
      go_enter Tryz.func47, Tryz.ntmps47
      go_wp2
      go_ret
      exact ⟨ret_int (by omega), (Below.refl _ w).alloc (Nat.le_refl _) _⟩
set_option maxRecDepth 100000 in
set_option maxHeartbeats 1000000 in
theorem spanRound_any (a b : Int) (w : World) (ha : -1099511627776 ≤ a ∧ a ≤ 1099511627776) :
    Calls Tryz.prog 49 #[.agg #[.int .i64 a, .int .i64 b]] w (ToldB (.int .i64 (spanR a : Nat)) w) := by
  obtain ⟨a1, a2⟩ := ha
  have e1 : ((spanR a : Nat) : Int) = max (max a (-a)) 1 := by unfold spanR; omega
  rw [e1]
  clear e1
  rcases Int.lt_trichotomy a 0 with h | h | h
  · go_enter Tryz.func49, Tryz.ntmps49
    go_wp2
    all_goals
      go_ret
      exact ⟨ret_int (by omega), (Below.refl _ w).alloc (Nat.le_refl _) _⟩
  · subst h
    go_enter Tryz.func49, Tryz.ntmps49
    go_wp2
    all_goals
      go_ret
      exact ⟨ret_int (by omega), (Below.refl _ w).alloc (Nat.le_refl _) _⟩
  · go_enter Tryz.func49, Tryz.ntmps49
    go_wp2
    all_goals
      go_ret
      exact ⟨ret_int (by omega), (Below.refl _ w).alloc (Nat.le_refl _) _⟩
set_option maxRecDepth 100000 in
set_option maxHeartbeats 2000000 in
theorem span_any (a : Option Addr) (n cap : Nat) (xs : List (Int × Int)) (hn : xs.length = n) (hcap : n ≤ 1000) (w : World) (hr : RdP w a xs) (hx : Fits xs) :
    Calls Tryz.prog 34 #[.slice a n cap] w (ToldB (.tuple #[.int .i64 ((spanF xs).1 : Nat), .int .i64 ((spanF xs).2 : Nat)]) w) := by
  have HN := Lib.hid hn
  have HR := Lib.hid hr
  have HX := Lib.hid hx
  clear hn hr hx
  obtain ⟨F, hF⟩ : ∃ F, spanF xs = F := ⟨_, rfl⟩
  have HF := Lib.hid hF
  rw [hF]
  clear hF
  go_enter Tryz.func34, Tryz.ntmps34
  go_wp2
  go_loopw [2, 3, 5, 8] (fun hv pv _ i wr => ∃ k : Nat, k ≤ n ∧ i = .int .i64 k ∧ (∃ h p : Nat, hv = .int .i64 h ∧ pv = .int .i64 p ∧ Hid (spanF (xs.take k) = (h, p))) ∧ Below w.heap.size w wr) (fun _ _ _ i _ => n - (intOf i).toNat)
  case atStart => exact ⟨0, by omega, rfl, ⟨0, 1, rfl, rfl, Lib.hid rfl⟩, Below.refl _ _⟩
  case round =>
    obtain ⟨k, hk, rfl, ⟨h, p, rfl, rfl, hs⟩, hbl⟩ := hrel
    by_cases hlt : k < n
    · obtain ⟨x, hxk⟩ : ∃ x, xs[k]? = some x := ⟨_, List.getElem?_eq_getElem (by rw [HN.out]; exact hlt)⟩
      have hfx := HX.out x (List.mem_of_getElem? hxk)
      have hbd := spanF_bd (xs.take k) (fun y hy => HX.out y (List.mem_of_mem_take hy))
      rw [hs.out] at hbd
      obtain ⟨hb1, hb2, hb3⟩ := hbd
      have hsn := spanF_snoc (xs.take k) x
      rw [← take_snocP hxk, hs.out] at hsn
      have HS := Lib.hid hsn
      clear hsn hs
      rcases HR.out.later hbl with h0 | ⟨b, off, rfl, hlt2, hc⟩
      · rw [h0] at hxk; cases hxk
      obtain ⟨c0, c1⟩ := hc k x hxk
      clear hc
      obtain ⟨x1, x2⟩ := x
      simp only at c0 c1 hfx
      have hkI : (0 : Int) ≤ (k : Int) := by omega
      have hkI2 : (k : Int) < (n : Int) := by omega
      have cH := fun w => spanHead_any x1 x2 w hfx.1 hfx.2
      have cR := fun w => spanRound_any x1 x2 w hfx.1
      have hSR : 1 ≤ spanR x1 ∧ spanR x1 ≤ 4611686018427387904 := by have := hfx.1; unfold spanR; omega
      have cM := fun w => multiple_any p (spanR x1) w ⟨hb2, hb3⟩ hSR
      have hst : spanStep (h, p) (x1, x2) = (max h (spanH x1 x2), mulF p (spanR x1)) := rfl
      rw [hst] at HS
      have hSH : spanH x1 x2 ≤ 1099511627776 := by have := hfx.1; have := hfx.2; unfold spanH; split <;> omega
      clear hst hSR hfx
      generalize spanH x1 x2 = sh at *
      generalize spanR x1 = sr at *
      generalize mulF p sr = np at *
      clear hb3
      by_cases hmx : h < sh
      · have hM := HS.out
        rw [Nat.max_eq_right (by omega)] at hM
        have HM := Lib.hid hM
        clear hM HS
        go_wp2_with fail
        refine (cH _).mono ?_
        rintro e w2 ⟨rfl, hb2⟩
        have hc0 := hb2.cell (p := ⟨wr.heap.size, 0, none⟩) (by simp)
        have hc1 := hb2.cell (p := ⟨wr.heap.size, 1, none⟩) (by simp)
        have B2 := (hbl.alloc hbl.size (.cells #[.int .i64 x1, .int .i64 x2] 60)).trans (hb2.mono (by simp; have := hbl.size; omega))
        go_wp2_with (first
          | (go_at_call 49; refine (cR _).mono ?_; rintro e w3 ⟨rfl, hb3⟩)
          | (go_at_call 48; refine (cM _).mono ?_; rintro e w4 ⟨rfl, hb4⟩))
        have B4 := (B2.trans (hb3.mono B2.size)).trans (hb4.mono (Nat.le_trans B2.size hb3.size))
        go_roundw
        case rel => exact ⟨k + 1, by omega, by go_num, ⟨_, _, rfl, rfl, HM⟩, B4⟩
        case measure => simp [intOf]; omega
      · have hM := HS.out
        rw [Nat.max_eq_left (by omega)] at hM
        have HM := Lib.hid hM
        clear hM HS
        go_wp2_with fail
        refine (cH _).mono ?_
        rintro e w2 ⟨rfl, hb2⟩
        have hc0 := hb2.cell (p := ⟨wr.heap.size, 0, none⟩) (by simp)
        have hc1 := hb2.cell (p := ⟨wr.heap.size, 1, none⟩) (by simp)
        have B2 := (hbl.alloc hbl.size (.cells #[.int .i64 x1, .int .i64 x2] 60)).trans (hb2.mono (by simp; have := hbl.size; omega))
        go_wp2_with (first
          | (go_at_call 49; refine (cR _).mono ?_; rintro e w3 ⟨rfl, hb3⟩)
          | (go_at_call 48; refine (cM _).mono ?_; rintro e w4 ⟨rfl, hb4⟩))
        have B4 := (B2.trans (hb3.mono B2.size)).trans (hb4.mono (Nat.le_trans B2.size hb3.size))
        go_roundw
        case rel => exact ⟨k + 1, by omega, by go_num, ⟨_, _, rfl, rfl, HM⟩, B4⟩
        case measure => simp [intOf]; omega
    · obtain rfl : k = n := by omega
      have he : xs.take k = xs := List.take_of_length_le (by rw [HN.out]; omega)
      rw [he] at hs
      obtain rfl : F = (h, p) := HF.out.symm.trans hs.out
      clear hs he HF HN
      go_wp2
      go_ret2
      exact ⟨rfl, hbl⟩
end
end Go.Proofs.YtcfhggdiccilaaaGreat
