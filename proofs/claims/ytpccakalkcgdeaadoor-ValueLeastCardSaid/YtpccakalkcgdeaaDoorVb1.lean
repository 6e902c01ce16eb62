/- ValueLeast: the law's walk. -/
import Derived.Test.YtpccakalkcgdeaaDoorVa2
import Derived.Test.YtpccakalkcgdeaaDoorVb0
import Derived.Test.YtpccakalkcgdeaaDoorVt
import Derived.Deep.RegionHeld3
namespace Go.Proofs.YtpccakalkcgdeaaDoor
open Go.RowKit Go.Deep
set_option linter.unusedVariables false

theorem leastF_holds {op : Int} {t : ByteArray} {fold : Bool} (h : neverF op (strB t) fold = false) : holdsF op (strB t) fold (strB (leastF op t fold)) = true := by
  unfold leastF
  by_cases h1 : op = 1
  · subst h1
    rw [if_pos (.inr rfl), holdsF_n, holdsT_1]
  · rw [if_neg (by rw [h]; simp [h1])]
    unfold neverF at h
    simpa using h
theorem leastF_never {op : Int} {t : ByteArray} {fold : Bool} (h : neverF op (strB t) fold = true) : leastF op t fold = ⟨#[]⟩ := by
  unfold leastF; rw [if_pos (.inl h)]
theorem leastF_size (op : Int) (t : ByteArray) (fold : Bool) : (leastF op t fold).size ≤ t.size := by
  unfold leastF; split
  · exact Nat.zero_le _
  · exact Nat.le_refl _
theorem leastF_len {op : Int} {t s : ByteArray} {fold : Bool} (h : holdsF op (strB t) fold (strB s) = true) : (leastF op t fold).size ≤ s.size := by
  unfold leastF; split
  · exact Nat.zero_le _
  · rename_i hc
    have h1 : op ≠ 1 := fun e => hc (.inr e)
    have := holdsF_len h h1
    rwa [strB_len, strB_len] at this

set_option maxRecDepth 100000 in
set_option maxHeartbeats 4000000 in
theorem leastLaw_e1 (op : Int) (fold : Bool) (t s : ByteArray) (w : World) (hL : LibW w) (h1 : (1000 : Int) < (t.size : Int)) :
    Calls Tryd.prog 8 #[.agg #[.int .i64 op, .string t, .bool fold], .string s] w (Told (.bool true) w) := by
  have hA := Blk.alloc (w := w) [.int .i64 op, .string t, .bool fold] 34
  have B1 : Below w.heap.size w (w.alloc (.cells #[.int .i64 op, .string t, .bool fold] 34)) := (Below.refl _ w).alloc (Nat.le_refl _) _
  have HA := Lib.hid hA
  have HL := Lib.hid hL
  clear hA hL
  go_enter Tryd.func8, Tryd.ntmps8
  go_wp2_with fail
  refine (speaks6_any _ (HL.out.later B1)).mono ?_
  rintro e w1 ⟨rfl, hb1⟩
  have HA1 := Lib.hid (HA.out.later hb1 HA.out.lt)
  have B2 := below_trans B1 hb1
  obtain ⟨x0, x1, x2⟩ := cells3 HA1.out
  clear HA
  go_wp2
  go_ret
  exact ⟨rfl, B2⟩
set_option maxRecDepth 100000 in
set_option maxHeartbeats 4000000 in
theorem leastLaw_e2 (op : Int) (fold : Bool) (t s : ByteArray) (w : World) (hL : LibW w) (h1 : ¬ (1000 : Int) < (t.size : Int)) (h2 : (1000 : Int) < (s.size : Int)) :
    Calls Tryd.prog 8 #[.agg #[.int .i64 op, .string t, .bool fold], .string s] w (Told (.bool true) w) := by
  have hA := Blk.alloc (w := w) [.int .i64 op, .string t, .bool fold] 34
  have B1 : Below w.heap.size w (w.alloc (.cells #[.int .i64 op, .string t, .bool fold] 34)) := (Below.refl _ w).alloc (Nat.le_refl _) _
  have HA := Lib.hid hA
  have HL := Lib.hid hL
  clear hA hL
  go_enter Tryd.func8, Tryd.ntmps8
  go_wp2_with fail
  refine (speaks6_any _ (HL.out.later B1)).mono ?_
  rintro e w1 ⟨rfl, hb1⟩
  have HA1 := Lib.hid (HA.out.later hb1 HA.out.lt)
  have B2 := below_trans B1 hb1
  obtain ⟨x0, x1, x2⟩ := cells3 HA1.out
  clear HA
  go_wp2
  go_ret
  exact ⟨rfl, B2⟩

set_option maxRecDepth 100000 in
set_option maxHeartbeats 4000000 in
theorem leastLaw_main (op : Int) (fold : Bool) (t s : ByteArray) (w : World) (hL : LibW w) (h1 : ¬ (1000 : Int) < (t.size : Int)) (h2 : ¬ (1000 : Int) < (s.size : Int)) :
    Calls Tryd.prog 8 #[.agg #[.int .i64 op, .string t, .bool fold], .string s] w (Told (.bool true) w) := by
  have cL := fun w h => least_any op fold t w h (by omega)
  have cN := fun w h => never_any op fold t w h (by omega)
  have cR := fun w => rnever_any op fold t w (by omega)
  have cH := fun w => rholds_any op fold t s w (by omega) (by omega)
  have cT := fun w => rholds_any op fold t (leastF op t fold) w (by omega) (by have := leastF_size op t fold; omega)
  have hlen : holdsF op (strB t) fold (strB s) = true → ((leastF op t fold).size : Int) ≤ (s.size : Int) := fun h => by have := leastF_len h; omega
  have hnv : neverF op (strB t) fold = true → holdsF op (strB t) fold (strB s) = false := fun h => by
    cases hs : holdsF op (strB t) fold (strB s)
    · rfl
    · rw [never_not hs] at h; cases h
  have hA := Blk.alloc (w := w) [.int .i64 op, .string t, .bool fold] 34
  have B1 : Below w.heap.size w (w.alloc (.cells #[.int .i64 op, .string t, .bool fold] 34)) := (Below.refl _ w).alloc (Nat.le_refl _) _
  have HS := Lib.hid (show HoldS LibW op t fold w.heap.size w (w.alloc (.cells #[.int .i64 op, .string t, .bool fold] 34)) from ⟨hA, hL.later B1, B1⟩)
  have HLA : ∀ w1 w2 : World, HoldS LibW op t fold w.heap.size w w1 → Below w1.heap.size w1 w2 → HoldS LibW op t fold w.heap.size w w2 := fun w1 w2 h hb => HoldS.later (fun w w' h hb => LibW.later h hb) h hb
  have HLA := Lib.hid HLA
  clear hA hL B1
  have hTn : neverF op (strB t) fold = false → holdsF op (strB t) fold (strB (leastF op t fold)) = true := leastF_holds
  have hTv : neverF op (strB t) fold = true → leastF op t fold = ⟨#[]⟩ := leastF_never
  generalize leastF op t fold = T at *
  generalize neverF op (strB t) fold = n at *
  generalize holdsF op (strB t) fold (strB s) = q at *
  generalize holdsF op (strB t) fold (strB T) = r at *
  cases n
  · obtain rfl := hTn rfl
    clear hTn hTv hnv
    go_enter Tryd.func8, Tryd.ntmps8
    go_wp2_with fail
    refine (speaks6_any _ HS.out.lib).mono ?_
    rintro e w1 ⟨rfl, hb1⟩
    have HS1 := Lib.hid (HLA.out _ _ HS.out hb1)
    obtain ⟨x0, x1, x2⟩ := HS1.out.says
    clear HS
    go_wp2_with fail
    refine (cL _ HS1.out.lib).mono ?_
    rintro e w2 ⟨rfl, hb2⟩
    have HS2 := Lib.hid (HLA.out _ _ HS1.out hb2)
    obtain ⟨y0, y1, y2⟩ := HS2.out.says
    clear HS1 x0 x1 x2
    go_wp2_with fail
    have HS2 : Hid (HoldS LibW op t fold w.heap.size w w2.drew) := Lib.hid ⟨HS2.out.1, LibW.later HS2.out.2.1 ((Below.refl _ _).drew), HS2.out.2.2.drew⟩
    generalize w.heap.size = P at *
    clear y0 y1 y2
    have HSY := Lib.hid (show ∀ w1, HoldS LibW op t fold P w w1 → _ from fun w1 h => HoldS.says h)
    obtain ⟨p0, p1, p2⟩ := HSY.out _ HS2.out
    first
      | (go_region_with (first
          | (go_at_call 27; (with_reducible refine (cN _ HS2.out.lib).mono ?_); rintro e w5 ⟨rfl, hb5⟩; have HS3 := Lib.hid (HLA.out _ _ HS2.out hb5); obtain ⟨p0, p1, p2⟩ := HSY.out _ HS3.out)
          | (go_at_call 28; (with_reducible refine (cR _).mono ?_); rintro e w7 ⟨rfl, hb7⟩; have HS5 := Lib.hid (HLA.out _ _ HS4.out hb7); obtain ⟨p0, p1, p2⟩ := HSY.out _ HS5.out)
          | (go_at_call 28; (with_reducible refine (cR _).mono ?_); rintro e w6 ⟨rfl, hb6⟩; have HS4 := Lib.hid (HLA.out _ _ HS3.out hb6); obtain ⟨p0, p1, p2⟩ := HSY.out _ HS4.out)))
      | fail
    all_goals
      obtain ⟨p0, p1, p2⟩ := HSY.out _ HS5.out
      go_wp2_with fail
      refine (cH _).mono ?_
      rintro e w8 ⟨rfl, hb8⟩
      have HS6 := Lib.hid (HLA.out _ _ HS5.out hb8)
      obtain ⟨q0, q1, q2⟩ := HSY.out _ HS6.out
      have HLEN := Lib.hid hlen
      cases q
      · go_wp2_with fail
        refine (cT _).mono ?_
        rintro e w9 ⟨rfl, hb9⟩
        have HS7 := Lib.hid (HLA.out _ _ HS6.out hb9)
        go_wp2
        go_ret
        exact ⟨rfl, HS7.out.bel⟩
      · have hln := HLEN.out rfl
        go_wp2_with fail
        refine (cT _).mono ?_
        rintro e w9 ⟨rfl, hb9⟩
        have HS7 := Lib.hid (HLA.out _ _ HS6.out hb9)
        go_wp2
        go_ret
        exact ⟨rfl, HS7.out.bel⟩
  · obtain rfl := hTv rfl
    obtain rfl := hnv rfl
    clear hTn hTv hnv cT
    go_enter Tryd.func8, Tryd.ntmps8
    go_wp2_with fail
    refine (speaks6_any _ HS.out.lib).mono ?_
    rintro e w1 ⟨rfl, hb1⟩
    have HS1 := Lib.hid (HLA.out _ _ HS.out hb1)
    obtain ⟨x0, x1, x2⟩ := HS1.out.says
    clear HS
    go_wp2_with fail
    refine (cL _ HS1.out.lib).mono ?_
    rintro e w2 ⟨rfl, hb2⟩
    have HS2 := Lib.hid (HLA.out _ _ HS1.out hb2)
    obtain ⟨y0, y1, y2⟩ := HS2.out.says
    clear HS1 x0 x1 x2
    go_wp2_with fail
    have HS2 : Hid (HoldS LibW op t fold w.heap.size w w2.drew) := Lib.hid ⟨HS2.out.1, LibW.later HS2.out.2.1 ((Below.refl _ _).drew), HS2.out.2.2.drew⟩
    generalize w.heap.size = P at *
    have hem : (⟨#[]⟩ : ByteArray).toList.isEmpty = true := by decide +kernel
    go_region_held3 (fun w' => w'.cell? ⟨P, 0, none⟩ = some (.int .i64 op) ∧ w'.cell? ⟨P, 1, none⟩ = some (.string t) ∧ w'.cell? ⟨P, 2, none⟩ = some (.bool fold))
      (first | exact HS2.out.says | exact HS3.out.says | exact HS4.out.says | exact HS5.out.says)
      (first
        | (go_at_call 27; (with_reducible refine (cN _ HS2.out.lib).mono ?_); rintro e w5 ⟨rfl, hb5⟩; have HS3 := Lib.hid (HLA.out _ _ HS2.out hb5))
        | (go_at_call 28; (with_reducible refine (cR _).mono ?_); rintro e w7 ⟨rfl, hb7⟩; have HS5 := Lib.hid (HLA.out _ _ HS4.out hb7))
        | (go_at_call 28; (with_reducible refine (cR _).mono ?_); rintro e w6 ⟨rfl, hb6⟩; have HS4 := Lib.hid (HLA.out _ _ HS3.out hb6)))
    all_goals
      obtain ⟨p0, p1, p2⟩ := HS5.out.says
      go_wp2_with fail
      refine (cH _).mono ?_
      rintro e w8 ⟨rfl, hb8⟩
      have HS6 := Lib.hid (HLA.out _ _ HS5.out hb8)
      go_wp2
      go_ret
      exact ⟨rfl, HS6.out.bel⟩

theorem lawLeast_any (op : Int) (fold : Bool) (t s : ByteArray) (w : World) (hL : LibW w) :
    Calls Tryd.prog 8 #[.agg #[.int .i64 op, .string t, .bool fold], .string s] w (Told (.bool true) w) := by
  by_cases h1 : (1000 : Int) < (t.size : Int)
  · exact leastLaw_e1 op fold t s w hL h1
  by_cases h2 : (1000 : Int) < (s.size : Int)
  · exact leastLaw_e2 op fold t s w hL h1 h2
  exact leastLaw_main op fold t s w hL h1 h2
end Go.Proofs.YtpccakalkcgdeaaDoor
