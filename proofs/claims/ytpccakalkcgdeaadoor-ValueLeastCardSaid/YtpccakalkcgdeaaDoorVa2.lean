/- ValueHolds: the law's walk, out of what its callees do. -/
import Derived.Test.YtpccakalkcgdeaaDoorVa1
import Derived.Deep.RegionHeld3
namespace Go.Proofs.YtpccakalkcgdeaaDoor
open Go.RowKit Go.Deep
set_option linter.unusedVariables false

/-- What the loop's region reads, and what it keeps. -/
def HoldS (L : World → Prop) (op : Int) (t : ByteArray) (fold : Bool) (P : Nat) (w0 w' : World) : Prop :=
  Blk w' P [.int .i64 op, .string t, .bool fold] 34 ∧ L w' ∧ Below w0.heap.size w0 w'
theorem HoldS.later {L : World → Prop} (hl : ∀ w w' : World, L w → Below w.heap.size w w' → L w') {op : Int} {t : ByteArray} {fold : Bool} {P : Nat} {w0 w1 w2 : World} (h : HoldS L op t fold P w0 w1) (hb : Below w1.heap.size w1 w2) : HoldS L op t fold P w0 w2 := by
  obtain ⟨h1, h2, h3⟩ := h
  exact ⟨h1.later hb h1.lt, hl _ _ h2 hb, h3.trans (hb.mono h3.size)⟩
theorem HoldS.lib {L : World → Prop} {op : Int} {t : ByteArray} {fold : Bool} {P : Nat} {w0 w1 : World} (h : HoldS L op t fold P w0 w1) : L w1 := h.2.1
theorem HoldS.bel {L : World → Prop} {op : Int} {t : ByteArray} {fold : Bool} {P : Nat} {w0 w1 : World} (h : HoldS L op t fold P w0 w1) : Below w0.heap.size w0 w1 := h.2.2
theorem HoldS.says {L : World → Prop} {op : Int} {t : ByteArray} {fold : Bool} {P : Nat} {w0 w1 : World} (h : HoldS L op t fold P w0 w1) :
    w1.cell? ⟨P, 0, none⟩ = some (.int .i64 op) ∧ w1.cell? ⟨P, 1, none⟩ = some (.string t) ∧ w1.cell? ⟨P, 2, none⟩ = some (.bool fold) :=
  ⟨h.1.cell 0 _ rfl, h.1.cell 1 _ rfl, h.1.cell 2 _ rfl⟩

set_option maxRecDepth 100000 in
set_option maxHeartbeats 2000000 in
theorem lawHolds_of (L : World → Prop) (F : Int → ByteArray → Bool → Bool) (v : ByteArray) (hLater : ∀ w w' : World, L w → Below w.heap.size w w' → L w')
    (hSp : ∀ w, L w → Calls Tryd.prog 20 #[] w (Told (.bool true) w))
    (hH : v.size ≤ 1000 → ∀ op t fold w, t.size ≤ 1000 → L w → Calls Tryd.prog 21 #[.agg #[.int .i64 op, .string t, .bool fold], .string v] w (Told (.bool (F op t fold)) w))
    (hR : v.size ≤ 1000 → ∀ op t fold w, t.size ≤ 1000 → Calls Tryd.prog 22 #[.agg #[.int .i64 op, .string t, .bool fold], .string v] w (Told (.bool (F op t fold)) w))
    (a : Option Addr) (n cap : Nat) (xs : List (Int × ByteArray × Bool)) (hn : xs.length = n) (hm : n ≤ 9223372036854775807) (w : World) (hr : RdC w a xs) (hL : L w) :
    Calls Tryd.prog 7 #[.slice a n cap, .string v] w (Told (.bool true) w) := by
  have HR := Lib.hid hr
  have HL := Lib.hid hL
  have HN := Lib.hid hn
  have HLt := Lib.hid hLater
  have HS := Lib.hid hSp
  have HH := Lib.hid hH
  have HRf := Lib.hid hR
  clear hr hL hn hLater hSp hH hR
  by_cases h1 : (60 : Int) < (n : Int)
  · go_enter Tryd.func7, Tryd.ntmps7
    go_wp2_with fail
    refine (HS.out _ HL.out).mono ?_
    rintro e w1 ⟨rfl, hb1⟩
    go_wp2
    go_ret
    exact ⟨rfl, hb1⟩
  by_cases h2 : (1000 : Int) < (v.size : Int)
  · go_enter Tryd.func7, Tryd.ntmps7
    go_wp2_with fail
    refine (HS.out _ HL.out).mono ?_
    rintro e w1 ⟨rfl, hb1⟩
    go_wp2
    go_ret
    exact ⟨rfl, hb1⟩
  have hv : v.size ≤ 1000 := by omega
  have cH := HH.out hv
  have cR := HRf.out hv
  have HH := Lib.hid cH
  have HRf := Lib.hid cR
  clear cH cR
  go_enter Tryd.func7, Tryd.ntmps7
  go_wp2_with fail
  refine (HS.out _ HL.out).mono ?_
  rintro e w1 ⟨rfl, hb1⟩
  go_wp2
  go_loopw [6, 19] (fun _ i wr => ∃ k : Nat, k ≤ n ∧ i = .int .i64 k ∧ Hid (∀ j x, j < k → xs[j]? = some x → x.2.1.size ≤ 1000) ∧ Below w.heap.size w wr) (fun _ i _ => n - (intOf i).toNat)
  case atStart => exact ⟨0, by omega, rfl, Lib.hid (fun j x h => by omega), hb1⟩
  case round =>
    obtain ⟨k, hk, rfl, hj, hbl⟩ := hrel
    by_cases hlt : k < n
    · obtain ⟨⟨op, t, fold⟩, hx⟩ : ∃ x, xs[k]? = some x := ⟨_, List.getElem?_eq_getElem (by rw [HN.out]; exact hlt)⟩
      obtain ⟨b, off, rfl, c0, c1, c2⟩ := rdC_at (HR.out.later hbl) k _ hx
      dsimp only at c0 c1 c2
      have hkI : (0 : Int) ≤ (k : Int) := by omega
      have hkI2 : (k : Int) < (n : Int) := by omega
      by_cases h3 : (1000 : Int) < (t.size : Int)
      · have hbl2 := hbl.alloc hbl.size (.cells #[.int .i64 op, .string t, .bool fold] 34)
        go_wp2
        go_ret
        exact ⟨rfl, hbl2⟩
      · have ht : t.size ≤ 1000 := by omega
        have HJ := Lib.hid (show ∀ j x, j < k + 1 → xs[j]? = some x → x.2.1.size ≤ 1000 from fun j x h hx' => by
          rcases Nat.lt_or_ge j k with h' | h'
          · exact hj.out j x h' hx'
          · obtain rfl : j = k := by omega
            rw [hx] at hx'
            obtain rfl := Option.some.inj hx'
            exact ht)
        have hA : Below w.heap.size w (wr.alloc (.cells #[.int .i64 op, .string t, .bool fold] 34)) := hbl.alloc hbl.size _
        have HS0 : Hid (HoldS L op t fold wr.heap.size w (wr.alloc (.cells #[.int .i64 op, .string t, .bool fold] 34))) := Lib.hid ⟨Blk.alloc (w := wr) _ _, HLt.out _ _ HL.out hA, hA⟩

        have HLA := Lib.hid (show ∀ w1 w2 : World, HoldS L op t fold wr.heap.size w w1 → Below w1.heap.size w1 w2 → HoldS L op t fold wr.heap.size w w2 from fun w1 w2 h hb => HoldS.later HLt.out h hb)
        have cH := fun w1 (h : L w1) => HH.out op t fold w1 ht h
        have cR := fun w1 => HRf.out op t fold w1 ht
        clear hj hA hx
        go_wp2_with fail
        obtain ⟨W0, hW0⟩ : ∃ W0, (wr.alloc (.cells #[.int .i64 op, .string t, .bool fold] 34)) = W0 := ⟨_, rfl⟩
        rw [hW0] at HS0 ⊢
        obtain ⟨P, hP⟩ : ∃ P, wr.heap.size = P := ⟨_, rfl⟩
        rw [hP] at HS0 HLA ⊢
        have HS0 : Hid (HoldS L op t fold P w W0.drew) := Lib.hid ⟨HS0.out.1, HLt.out _ _ HS0.out.2.1 ((Below.refl _ _).drew), HS0.out.2.2.drew⟩
        generalize hq : F op t fold = q at *
        have nq : (q != q) = false := by simp
        clear hW0 hP hq
        go_region_held3 (fun w' => w'.cell? ⟨P, 0, none⟩ = some (.int .i64 op) ∧ w'.cell? ⟨P, 1, none⟩ = some (.string t) ∧ w'.cell? ⟨P, 2, none⟩ = some (.bool fold))
          (first | exact HS0.out.says | exact HS1.out.says | exact HS2.out.says)
          (first
            | (go_at_call 21; (with_reducible refine (cH _ HS0.out.lib).mono ?_); rintro e w5 ⟨rfl, hb5⟩; have HS1 := Lib.hid (HLA.out _ _ HS0.out hb5))
            | (go_at_call 22; (with_reducible refine (cR _).mono ?_); rintro e w6 ⟨rfl, hb6⟩; have HS2 := Lib.hid (HLA.out _ _ HS1.out hb6)))
        all_goals
          go_wp2
          go_roundw
          case rel => exact ⟨k + 1, by omega, by go_num, HJ, HS2.out.bel⟩
          case measure => simp [intOf]; omega
    · obtain rfl : k = n := by omega
      have hall : ∀ x ∈ xs, x.2.1.size ≤ 1000 := fun x hx => by
        obtain ⟨j, hj1, hj2⟩ := List.mem_iff_getElem.1 hx
        exact hj.out j x (by rw [← HN.out]; exact hj1) (by rw [List.getElem?_eq_getElem hj1, hj2])
      have cA := all_of L F v HLt.out HH.out a k cap xs HN.out (by omega) hall
      have cB := rall_of F v HRf.out a k cap xs HN.out (by omega) hall
      have hL3 := HLt.out _ _ HL.out hbl
      have hR3 := HR.out.later hbl
      clear hj hall
      go_wp2_with fail
      refine (cA _ hR3 hL3).mono ?_
      rintro e w4 ⟨a4, c4, rfl, hr4, hb4⟩
      have hR4 := hR3.later hb4
      have hbl4 := hbl.trans (hb4.mono hbl.size)
      clear cA hL3 hR3
      go_wp2_with fail
      refine (cB _ hR4).mono ?_
      rintro e w5 ⟨a5, c5, rfl, hr5, hb5⟩
      have hr4' := hr4.later hb5
      have hbl5 := hbl4.trans (hb5.mono hbl4.size)
      clear cB hR4
      go_wp2_with fail
      refine (rsame_rows a4 a5 k c4 c5 _ _ hr4' hr5).mono ?_
      rintro e w6 ⟨rfl, hb6⟩
      have hbl6 := hbl5.trans (hb6.mono hbl5.size)
      go_wp2
      go_ret
      exact ⟨rfl, hbl6⟩
end Go.Proofs.YtpccakalkcgdeaaDoor
