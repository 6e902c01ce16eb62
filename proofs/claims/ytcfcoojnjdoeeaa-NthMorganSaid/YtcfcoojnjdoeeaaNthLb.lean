/- NthBoth: the law's walk. -/
import Derived.Test.YtcfcoojnjdoeeaaNthU
import Derived.Test.YtcfcoojnjdoeeaaNthLo
namespace Go.Proofs.Ytcfcoojnjdoeeaa
open Go.RowKit

theorem wpList_append_bool2 {P : Program} {w : World} {ops : Array Oper} {rest : List Oper} {o : Oper} {a : Act} {Q : Exit → Act → World → Prop} (hgd : o.guard = none) (s x : Operand) (t : TypeId)
    (ho : o.op = .call { callee := .builtin .append, args := #[s, x], argTypes := #[t, t] })
    (base : Nat) (e : TypeId) (ht : P.underlying t = some (.slice e)) (hinfo : (P.info? e).map (fun i => (i.zero, i.size, i.bytes)) = some (some (.bool false), 1, 1))
    (v : Value) (n : Nat) (S : Nat → Bool) (hs : a.eval s = v) (w0 : World) (b : Bool) (hw : w = w0.alloc (.cells #[.bool b] e)) (hown : w0.ownsRow base e 1 v n ((rowOf S n).map Value.bool)) (hx : a.eval x = .slice (some ⟨w0.heap.size, 0, none⟩) 1 1)
    (hb : b = S (n + 1)) (hn : n ≤ 1000000) (hbase : base ≤ w0.heap.size)
    (h : ∀ g cap w', w'.ownsRow base e 1 (.slice (some ⟨g, 0, none⟩) (n + 1) cap) (n + 1) ((rowOf S (n + 1)).map Value.bool) → w.grownBy w' v.ownBlock → (v.ownBlock = some g ∨ g = w0.heap.size + 1) → g < w'.heap.size →
      wpList P ops Q rest (a.put o.dst (.slice (some ⟨g, 0, none⟩) (n + 1) cap)) w') : wpList P ops Q (o :: rest) a w := by
  subst hw
  subst hb
  obtain ⟨i, hi, hzz⟩ := Option.map_eq_some_iff.1 hinfo
  simp only [Prod.mk.injEq] at hzz
  obtain ⟨hz, hsz, hby⟩ := hzz
  refine wpList_append_lies _ hgd s x t ho base e i (.bool false) 1 1 ht hi hz hsz hby rfl (by decide) v n _ hs (hown.alloc _) ⟨w0.heap.size, 0, none⟩ 1 1 [.bool (S (n + 1))] hx rfl
    (World.news_of_block (cs := #[.bool (S (n + 1))]) (t := e) (fr := (0, 0)) (heap_alloc_new w0 _)) (by simp [Value.oneCell']) (by omega) (by unfold maxLen; omega) (by omega) (by simp; omega) (w0.heap.size + 1) (by simp)
    (fun g cap w' h1 h2 h3 h4 => h g cap w' (by rw [rowOf_snoc, List.map_append]; exact h1) h2 h3 h4)

/-- Whether two rows are one so far. -/
def sameT (S T : Nat → Bool) (k : Nat) : Bool := decide (∀ i, i < k → S (i + 1) = T (i + 1))
theorem sameT_zero (S T : Nat → Bool) : sameT S T 0 = true := decide_eq_true (fun i h => by omega)
theorem sameT_succ (S T : Nat → Bool) (k : Nat) : sameT S T (k + 1) = (sameT S T k && (S (k + 1) == T (k + 1))) := by
  unfold sameT
  rw [Bool.eq_iff_iff]
  simp only [decide_eq_true_eq, Bool.and_eq_true, beq_iff_eq]
  constructor
  · intro h; exact ⟨fun i hi => h i (by omega), h k (by omega)⟩
  · rintro ⟨h1, h2⟩ i hi
    rcases Nat.lt_or_ge i k with c | c
    · exact h1 i c
    · obtain rfl : i = k := by omega
      exact h2
theorem sameT_iff {S T : Nat → Bool} {h p k q : Nat} (L : LeastP S h p) (M : LeastP T k q) (hN : max h k + p * q ≤ 400) : sameT S T 400 = true ↔ ∀ n, 1 ≤ n → S n = T n := by
  unfold sameT
  rw [decide_eq_true_eq]
  constructor
  · intro h
    exact agree_far L M hN (fun n h1 h2 => by have := h (n - 1) (by omega); rwa [Nat.sub_add_cancel h1] at this)
  · intro h i _; exact h (i + 1) (by omega)

theorem ownB {a : Option Addr} {g n c : Nat} (h : a = some ⟨g, 0, none⟩) : (Value.slice a n c).ownBlock = some g := by rw [h]; rfl
theorem keptB {u v : Value} {g1 g2 : Nat} (h1 : u.ownBlock = some g1) (h2 : v.ownBlock = some g2) (ne : g1 ≠ g2) : v.ownBlock = none ∨ v.ownBlock ≠ u.ownBlock :=
  .inr (fun e => ne (Option.some.inj (h1.symm.trans (e.symm.trans h2))))

theorem orAnd : ∀ a b : Bool, ((a || b) = (a && b)) ↔ a = b := by decide

theorem rdB_cell {w : World} {b off n cap : Nat} {f : Nat → Bool} (h : RdB w (some ⟨b, off, none⟩) n cap f) (i : Nat) (hi : i < n) : w.cell? ⟨b, off + i, none⟩ = some (.bool (f i)) := by
  obtain ⟨b', off', e, hc⟩ := rdB_at h i hi
  injection e with e; injection e with e1 e2
  subst e1 e2
  exact hc

/-- A struct's cells in a later world. -/
theorem blk2 {w w' : World} {b : Nat} {c0 c1 : Value} {T : TypeId} (h : Blk w b [c0, c1] T) (hb : Below w.heap.size w w') : Blk w' b [c0, c1] T ∧ w'.cell? ⟨b, 0, none⟩ = some c0 ∧ w'.cell? ⟨b, 1, none⟩ = some c1 := by
  have := h.later hb (lt_of_block h)
  exact ⟨this, this.cell 0 _ rfl, this.cell 1 _ rfl⟩

set_option maxRecDepth 100000 in
set_option maxHeartbeats 16000000 in
theorem lawBoth_any (x y x' y' : Int) (w : World) (hx : -9223372036854775808 ≤ x ∧ x ≤ 9223372036854775807) (hy : -9223372036854775808 ≤ y ∧ y ≤ 9223372036854775807) (hx' : -9223372036854775808 ≤ x' ∧ x' ≤ 9223372036854775807) (hy' : -9223372036854775808 ≤ y' ∧ y' ≤ 9223372036854775807) :
    Calls Try.prog 4 #[.agg #[.int .i64 x, .int .i64 y], .agg #[.int .i64 x', .int .i64 y']] w (ToldB (.bool true) w) := by
  have B1 : Below w.heap.size w ((w.alloc (.cells #[.int .i64 x, .int .i64 y] 23)).alloc (.cells #[.int .i64 x', .int .i64 y'] 23)) := ((Below.refl _ w).alloc (Nat.le_refl _) _).alloc (by simp) _
  have X := Lib.hid ((Blk.alloc (w := w) [.int .i64 x, .int .i64 y] 23).alloc_old (.cells #[.int .i64 x', .int .i64 y'] 23))
  have hY := Blk.alloc (w := w.alloc (.cells #[.int .i64 x, .int .i64 y] 23)) [.int .i64 x', .int .i64 y'] 23
  rw [show (w.alloc (.cells #[.int .i64 x, .int .i64 y] 23)).heap.size = w.heap.size + 1 by simp] at hY
  have Y := Lib.hid hY
  have cS := fun w => small_any x y 12 w (by omega)
  have cS' := fun w => small_any x' y' 12 w (by omega)
  clear hY
  go_enter Try.func4, Try.ntmps4
  go_wp2_with fail
  refine (speaks5_any _).mono ?_
  rintro e w1 ⟨rfl, hb1⟩
  have B2 := below_from B1 hb1
  clear B1
  obtain ⟨XB, X0, X1⟩ := blk2 X.out hb1
  replace X := Lib.hid XB
  clear XB
  obtain ⟨YB, Y0, Y1⟩ := blk2 Y.out hb1
  replace Y := Lib.hid YB
  clear YB
  cases hs : smallB x y 12
  · rw [hs] at cS
    clear hs hx hy hx' hy'
    go_wp2_with fail
    refine (cS _).mono ?_
    rintro e w2 ⟨rfl, hb2⟩
    go_wp2
    go_ret
    exact ⟨rfl, below_from B2 hb2⟩
  · rw [hs] at cS
    go_wp2_with fail
    refine (cS _).mono ?_
    rintro e w2 ⟨rfl, hb2⟩
    have B3 := below_from B2 hb2
    clear B2
    clear X0 X1 Y0 Y1
    obtain ⟨XB, X0, X1⟩ := blk2 X.out hb2
    replace X := Lib.hid XB
    clear XB
    obtain ⟨YB, Y0, Y1⟩ := blk2 Y.out hb2
    replace Y := Lib.hid YB
    clear YB
    cases hs' : smallB x' y' 12
    · rw [hs'] at cS'
      clear hs hs' hx hy hx' hy'
      go_wp2_with fail
      refine (cS' _).mono ?_
      rintro e w3 ⟨rfl, hb3⟩
      go_wp2
      go_ret
      exact ⟨rfl, below_from B3 hb3⟩
    · rw [hs'] at cS'
      obtain ⟨p1, p2⟩ := parts_small hs
      obtain ⟨⟨x1, x2⟩, y1, y2⟩ := smallB_yes hs
      obtain ⟨p1', p2'⟩ := parts_small hs'
      obtain ⟨⟨x1', x2'⟩, y1', y2'⟩ := smallB_yes hs'
      have cO := fun w => of_any x y w ⟨by omega, by omega⟩ ⟨by omega, by omega⟩ (by omega)
      have cO' := fun w => of_any x' y' w ⟨by omega, by omega⟩ ⟨by omega, by omega⟩ (by omega)
      have cR : ∀ w, Calls Try.prog 10 #[.agg #[.int .i64 x, .int .i64 y], .int .i64 400] w (ToldRow (hasN x y) 400 w) := fun w => row_any x y 400 w ⟨by omega, by omega⟩ ⟨by omega, by omega⟩ (by omega)
      have cR' : ∀ w, Calls Try.prog 10 #[.agg #[.int .i64 x', .int .i64 y'], .int .i64 400] w (ToldRow (hasN x' y') 400 w) := fun w => row_any x' y' 400 w ⟨by omega, by omega⟩ ⟨by omega, by omega⟩ (by omega)
      have hh : headF x y ≤ 12 ∧ roundF x ≤ 12 ∧ headF x' y' ≤ 12 ∧ roundF x' ≤ 12 := by omega
      obtain ⟨h12, h12p, k12, k12q⟩ := hh
      have LS := Lib.hid (least_of x y)
      have LT := Lib.hid (least_of x' y')
      have hpq : roundF x * roundF x' ≤ 144 := Nat.mul_le_mul h12p k12q
      clear hs hs' hx hy hx' hy' x1 x2 y1 y2 x1' x2' y1' y2' p1 p2 p1' p2'
      generalize hasN x y = S at *
      generalize hasN x' y' = T at *
      generalize headF x y = gs at *
      generalize roundF x = p at *
      generalize headF x' y' = gt at *
      generalize roundF x' = q at *
      have hmx : max gs gt ≤ 12 := by omega
      go_wp2_with fail
      refine (cS' _).mono ?_
      rintro e w3 ⟨rfl, hb3⟩
      have B4 := below_from B3 hb3
      clear B3 cS cS'
      clear X0 X1 Y0 Y1
      obtain ⟨XB, X0, X1⟩ := blk2 X.out hb3
      replace X := Lib.hid XB
      clear XB
      obtain ⟨YB, Y0, Y1⟩ := blk2 Y.out hb3
      replace Y := Lib.hid YB
      clear YB
      go_wp2_with fail
      refine (cO _).mono ?_
      rintro e w4 ⟨vs, rfl, hs4, -, hb4⟩
      have B5 := below_from B4 hb4
      obtain ⟨as0, ns0, cs0, rfl⟩ := isSet_val hs4
      have al4 := (Below.refl _ w4).alloc (Nat.le_refl _) (.cells #[.int .i64 gs, .slice as0 ns0 cs0] 28)
      have B6 := below_from B5 al4
      have SB := Lib.hid (Blk.alloc (w := w4) [.int .i64 gs, .slice as0 ns0 cs0] 28)
      have IS := Lib.hid (hs4.later al4)
      clear B4 B5 hs4
      clear X0 X1 Y0 Y1
      obtain ⟨XB, X0, X1⟩ := blk2 X.out (hb4.trans (al4.mono hb4.size))
      replace X := Lib.hid XB
      clear XB
      obtain ⟨YB, Y0, Y1⟩ := blk2 Y.out (hb4.trans (al4.mono hb4.size))
      replace Y := Lib.hid YB
      clear YB
      go_wp2_with fail
      refine (cO' _).mono ?_
      rintro e w5 ⟨vt, rfl, ht5, -, hb5⟩
      have B7 := below_from B6 hb5
      obtain ⟨at', nt, ct, rfl⟩ := isSet_val ht5
      have al5 := (Below.refl _ w5).alloc (Nat.le_refl _) (.cells #[.int .i64 gt, .slice at' nt ct] 28)
      have B8 := below_from B7 al5
      have hb5' := hb5.trans (al5.mono hb5.size)
      have TB := Lib.hid (Blk.alloc (w := w5) [.int .i64 gt, .slice at' nt ct] 28)
      have IT := Lib.hid (ht5.later al5)
      replace IS := Lib.hid (IS.out.later hb5')
      have TB0 := TB.out.cell 0 _ rfl
      have TB1 := TB.out.cell 1 _ rfl
      clear B6 B7 ht5 cO cO'
      clear X0 X1 Y0 Y1
      obtain ⟨XB, X0, X1⟩ := blk2 X.out hb5'
      replace X := Lib.hid XB
      clear XB
      obtain ⟨YB, Y0, Y1⟩ := blk2 Y.out hb5'
      replace Y := Lib.hid YB
      clear YB
      obtain ⟨SBB, SB0, SB1⟩ := blk2 SB.out hb5'
      replace SB := Lib.hid SBB
      clear SBB
      have BB := B8
      clear B8
      go_wp2_with fail
      refine (union_any _ _ _ S T gs p gt q IS.out IT.out (by omega) ).mono ?_
      rintro e w6 ⟨d6, r6, ⟨v6, rfl, hv6, -, hb6⟩, hd6, hr6⟩
      have BB6 := below_from BB hb6
      obtain ⟨a6, n6, c6, rfl⟩ := isSet_val hv6
      have al6 := (Below.refl _ w6).alloc (Nat.le_refl _) (.cells #[.int .i64 d6, .slice a6 n6 c6] 28)
      replace BB := below_from BB6 al6
      have hq6 := hb6.trans (al6.mono hb6.size)
      have UB := Lib.hid (Blk.alloc (w := w6) [.int .i64 d6, .slice a6 n6 c6] 28)
      have IU := Lib.hid (hv6.later al6)
      have UB0 := UB.out.cell 0 _ rfl
      have UB1 := UB.out.cell 1 _ rfl
      clear BB6 hv6
      clear X0 X1 Y0 Y1 SB0 SB1 TB0 TB1
      obtain ⟨XB, X0, X1⟩ := blk2 X.out hq6
      replace X := Lib.hid XB
      clear XB
      obtain ⟨YB, Y0, Y1⟩ := blk2 Y.out hq6
      replace Y := Lib.hid YB
      clear YB
      obtain ⟨SBB, SB0, SB1⟩ := blk2 SB.out hq6
      replace SB := Lib.hid SBB
      clear SBB
      obtain ⟨TBB, TB0, TB1⟩ := blk2 TB.out hq6
      replace TB := Lib.hid TBB
      clear TBB
      replace IS := Lib.hid (IS.out.later hq6)
      replace IT := Lib.hid (IT.out.later hq6)
      go_wp2_with fail
      refine (inter_any _ _ _ S T gs p gt q IS.out IT.out (by omega) ).mono ?_
      rintro e w7 ⟨d7, r7, ⟨v7, rfl, hv7, -, hb7⟩, hd7, hr7⟩
      have BB7 := below_from BB hb7
      obtain ⟨a7, n7, c7, rfl⟩ := isSet_val hv7
      have al7 := (Below.refl _ w7).alloc (Nat.le_refl _) (.cells #[.int .i64 d7, .slice a7 n7 c7] 28)
      replace BB := below_from BB7 al7
      have hq7 := hb7.trans (al7.mono hb7.size)
      have VB := Lib.hid (Blk.alloc (w := w7) [.int .i64 d7, .slice a7 n7 c7] 28)
      have IV := Lib.hid (hv7.later al7)
      have VB0 := VB.out.cell 0 _ rfl
      have VB1 := VB.out.cell 1 _ rfl
      clear BB7 hv7
      clear X0 X1 Y0 Y1 SB0 SB1 TB0 TB1 UB0 UB1
      obtain ⟨XB, X0, X1⟩ := blk2 X.out hq7
      replace X := Lib.hid XB
      clear XB
      obtain ⟨YB, Y0, Y1⟩ := blk2 Y.out hq7
      replace Y := Lib.hid YB
      clear YB
      obtain ⟨SBB, SB0, SB1⟩ := blk2 SB.out hq7
      replace SB := Lib.hid SBB
      clear SBB
      obtain ⟨TBB, TB0, TB1⟩ := blk2 TB.out hq7
      replace TB := Lib.hid TBB
      clear TBB
      obtain ⟨UBB, UB0, UB1⟩ := blk2 UB.out hq7
      replace UB := Lib.hid UBB
      clear UBB
      replace IS := Lib.hid (IS.out.later hq7)
      replace IT := Lib.hid (IT.out.later hq7)
      replace IU := Lib.hid (IU.out.later hq7)
      have ws : w.heap.size + 1 < (w7.alloc (.cells #[.int .i64 d7, .slice a7 n7 c7] 28)).heap.size := lt_of_block Y.out
      go_wp2_with fail
      generalize hW8 : w7.alloc (.cells #[.int .i64 d7, .slice a7 n7 c7] 28) = w8 at *
      have x0 : w8.drew.cell? ⟨w.heap.size, 0, none⟩ = some (.int .i64 x) := X0
      have x1 : w8.drew.cell? ⟨w.heap.size, 1, none⟩ = some (.int .i64 y) := X1
      have y0 : w8.drew.cell? ⟨w.heap.size + 1, 0, none⟩ = some (.int .i64 x') := Y0
      have y1 : w8.drew.cell? ⟨w.heap.size + 1, 1, none⟩ = some (.int .i64 y') := Y1
      have SB' := Lib.hid (show Blk w8.drew w4.heap.size [.int .i64 gs, .slice as0 ns0 cs0] 28 from SB.out)
      have TB' := Lib.hid (show Blk w8.drew w5.heap.size [.int .i64 gt, .slice at' nt ct] 28 from TB.out)
      have UB' := Lib.hid (show Blk w8.drew w6.heap.size [.int .i64 d6, .slice a6 n6 c6] 28 from UB.out)
      have VB' := Lib.hid (show Blk w8.drew w7.heap.size [.int .i64 d7, .slice a7 n7 c7] 28 from VB.out)
      have dr := (Below.refl w8.heap.size w8).drew
      have IS' := Lib.hid (IS.out.later dr)
      have IT' := Lib.hid (IT.out.later dr)
      have IU' := Lib.hid (IU.out.later dr)
      have IV' := Lib.hid (IV.out.later dr)
      have BB' := Lib.hid (below_from BB dr)
      clear IS IT IU IV BB SB TB UB VB SB0 SB1 TB0 TB1 UB0 UB1 VB0 VB1 hW8 al4 al5 al6 al7 hb4 hb5 hb5' hb6 hb7 hq6 hq7 dr X Y hb1 hb2 hb3
      go_region_held3 (fun w' => w'.cell? ⟨w.heap.size, 0, none⟩ = some (.int .i64 x) ∧ w'.cell? ⟨w.heap.size, 1, none⟩ = some (.int .i64 y) ∧ w'.cell? ⟨w.heap.size + 1, 0, none⟩ = some (.int .i64 x') ∧ w'.cell? ⟨w.heap.size + 1, 1, none⟩ = some (.int .i64 y') ∧ Below w8.drew.heap.size w8.drew w')
        (first
          | exact ⟨x0, x1, y0, y1, Below.refl _ _⟩
          | exact keep4 x0 x1 y0 y1 bB
          | exact keep4 x0 x1 y0 y1 bA)
        (first
          | (go_at_call 10; (with_reducible refine (cR _).mono ?_); rintro e w9 ⟨ra, rca, rfl, hra, bA⟩)
          | (go_at_call 10; (with_reducible refine (cR' _).mono ?_); rintro e w10 ⟨rb, rcb, rfl, hrb, hB⟩; have bB := bA.trans (hB.mono bA.size)))
      obtain ⟨ba, oa, rfl, -⟩ := rdB_at hra 0 (by omega)
      obtain ⟨bb, ob, rfl, -⟩ := rdB_at hrb 0 (by omega)
      have HRa := Lib.hid (hra.later hB)
      have HRb := Lib.hid hrb
      have hbB := Lib.hid bB
      have own1 := Lib.hid ((World.ownsRow_made (base := w10.heap.size) (e := 4) (size := 1) w10 #[] 0 (Nat.le_refl _) (by simp [maxLen]) (by simp)).alloc (.cells #[] 4))
      have hown2 := World.ownsRow_made (base := w10.heap.size) (e := 4) (size := 1) (w10.alloc (.cells #[] 4)) #[] 0 (by simp) (by simp [maxLen]) (by simp)
      rw [show (w10.alloc (.cells #[] 4)).heap.size = w10.heap.size + 1 by simp] at hown2
      have own2 := Lib.hid hown2
      have B0 := Lib.hid (((Below.refl _ w10).alloc (Nat.le_refl _) (.cells #[] 4)).alloc (by simp) (.cells #[] 4))
      clear hra hrb hown2 bA bB hB x0 x1 y0 y1 cR cR'
      go_wp2
      go_loopw [15, 16, 17, 18, 73] (fun v1 v2 sm _ i wr => ∃ j : Nat, j ≤ 400 ∧ i = .int .i64 j ∧ sm = .bool (sameT S T j) ∧ (∃ g1 cp1 g2 cp2 a1 a2, v1 = .slice a1 j cp1 ∧ v2 = .slice a2 j cp2 ∧ Hid (g1 ≠ g2 ∧ a1 = some ⟨g1, 0, none⟩ ∧ a2 = some ⟨g2, 0, none⟩) ∧
          wr.ownsRow w10.heap.size 4 1 (.slice a1 j cp1) j ((rowOf (fun n => S n || T n) j).map Value.bool) ∧ wr.ownsRow w10.heap.size 4 1 (.slice a2 j cp2) j ((rowOf (fun n => S n && T n) j).map Value.bool)) ∧ Below w10.heap.size w10 wr)
        (fun _ _ _ _ i _ => 400 - (intOf i).toNat)
      case atStart => exact ⟨0, by omega, rfl, by rw [sameT_zero], ⟨w10.heap.size, 0, w10.heap.size + 1, 0, _, _, rfl, rfl, Lib.hid ⟨by omega, rfl, rfl⟩, own1.out, own2.out⟩, B0.out⟩
      case round =>
        obtain ⟨j, hj, rfl, rfl, ⟨g1, cp1, g2, cp2, a1, a2, rfl, rfl, hne, ho1, ho2⟩, hbl⟩ := hrel
        clear own1 own2 B0
        by_cases hlt : j < 400
        · have ca := rdB_cell (HRa.out.later hbl) j hlt
          have cb := rdB_cell (HRb.out.later hbl) j hlt
          have hkI : (0 : Int) ≤ (j : Int) := by omega
          have hkI2 : (j : Int) < 400 := by omega
          have hsc := sameT_succ S T j
          have O1 := Lib.hid ho1
          have O2 := Lib.hid ho2
          have OB1 := Lib.hid (ownB (n := j) (c := cp1) hne.out.2.1)
          have OB2 := Lib.hid (ownB (n := j) (c := cp2) hne.out.2.2)
          have hg1 := (ho1.lt g1 OB1.out)
          have hg2 := (ho2.lt g2 OB2.out)
          have HG1 := Lib.hid hg1
          have HG2 := Lib.hid hg2
          have HNE := Lib.hid hne.out.1
          have HSC := Lib.hid hsc
          have K1 := Lib.hid (show (S (j + 1) || T (j + 1)) = (fun n => S n || T n) (j + 1) from rfl)
          have K2 := Lib.hid (show (S (j + 1) && T (j + 1)) = (fun n => S n && T n) (j + 1) from rfl)
          have CA := Lib.hid (fun X (hX : Below w10.heap.size w10 X) => rdB_cell (HRa.out.later hX) j hlt)
          have CB := Lib.hid (fun X (hX : Below w10.heap.size w10 X) => rdB_cell (HRb.out.later hX) j hlt)
          have HBL := Lib.hid hbl
          have hszb := hbl.size
          clear ho1 ho2 hg1 hg2 hne hsc hbl
          generalize hr : S (j + 1) = r at ca CA K1 K2 HSC
          generalize hs : T (j + 1) = s at cb CB K1 K2 HSC
          clear hr hs
          generalize sameT S T j = sm at *
          cases r <;> cases s <;> cases sm
          all_goals
            go_wp2_with (first
              | (at_builtin; refine wpList_append_bool2 rfl _ _ 26 rfl w10.heap.size 4 Try.underlying26 TryinfoBool _ j (fun n => S n || T n) rfl wr _ rfl O1.out rfl K1.out (by omega) hszb ?_; intro h1 cq1 w12 ho1' hgr1 hor1 hlt1; have hb12 := (HBL.out.alloc hszb _).grown hgr1 (by simp; omega) (fun i hi => (O1.out.lt i hi).1); have hsz12 := hb12.size; have o2' := Lib.hid ((O2.out.alloc _).kept hgr1 (keptB OB1.out OB2.out HNE.out)); have ca' := CA.out w12 hb12; have cb' := CB.out w12 hb12; have hn12 := Lib.hid (show h1 ≠ g2 from (by rcases hor1 with e | e; exact (Option.some.inj (OB1.out.symm.trans e)) ▸ HNE.out; (have := HG2.out; omega))))
              | (at_builtin; refine wpList_append_bool2 rfl _ _ 26 rfl w10.heap.size 4 Try.underlying26 TryinfoBool _ j (fun n => S n && T n) rfl w12 _ rfl o2'.out rfl K2.out (by omega) hsz12 ?_; intro q2 cq2 w14 ho2'' hgr2 hor2 hlt2'; have hb14 := (hb12.alloc hsz12 _).grown hgr2 (by simp; omega) (fun i hi => (o2'.out.lt i hi).1); have o1'' := Lib.hid ((World.ownsRow.alloc ho1' _).kept hgr2 (keptB OB2.out (ownB (n := j + 1) (c := cq1) rfl) (fun e => hn12.out e.symm))); have O2'' := Lib.hid ho2''; have ca'' := CA.out w14 hb14; have cb'' := CB.out w14 hb14; have hn14 := Lib.hid (show h1 ≠ q2 from (by rcases hor2 with e | e; exact (Option.some.inj (OB2.out.symm.trans e)) ▸ hn12.out; omega)); clear ho2'' hgr2 hor2 ca' cb' ca cb ho1' hgr1 hor1))
            go_quiet (fail)
            go_wp2
            go_roundw
            case rel => exact ⟨j + 1, by omega, by go_num, by rw [HSC.out]; rfl, ⟨h1, cq1, q2, cq2, _, _, rfl, rfl, Lib.hid ⟨hn14.out, rfl, rfl⟩, o1''.out, O2''.out⟩, below_drewN hb14 _⟩
            case measure => simp [intOf]; omega
        · obtain rfl : j = 400 := by omega
          obtain ⟨z1, zc1, hv1, hr1⟩ := RdB.of_owns ho1
          injection hv1 with e1 e2 e3
          subst e1 e3
          obtain ⟨z2, zc2, hv2, hr2⟩ := RdB.of_owns ho2
          injection hv2 with e1 e2 e3
          subst e1 e3
          have bT := hbB.out.trans (hbl.mono hbB.out.size)
          have hiff := sameT_iff LS.out LT.out (by omega)
          have hiff2 : sameT S T 400 = true ↔ ∀ n, 1 ≤ n → (fun n => S n || T n) n = (fun n => S n && T n) n := by
            rw [hiff]
            constructor
            · intro h n hn; exact (orAnd _ _).2 (h n hn)
            · intro h n hn; exact (orAnd _ _).1 (h n hn)
          have HI1 := Lib.hid hiff
          have HI2 := Lib.hid hiff2
          have R1 := Lib.hid hr1
          have R2 := Lib.hid hr2
          generalize sameT S T 400 = sm at *
          have nsm : (sm == sm) = true := beq_self_eq_true _
          clear ho1 ho2 hr1 hr2 hiff hiff2 HRa HRb hne
          obtain ⟨UBx, U0, U1⟩ := blk2 UB'.out bT
          go_wp2_with fail
          refine (is_any _ _ _ d6 r6 _ _ (IU'.out.later bT) (by omega) R1.out).mono ?_
          rintro e u1 ⟨rfl, hc1⟩
          have bT1 := bT.trans (hc1.mono bT.size)
          obtain ⟨VBx, V0, V1⟩ := blk2 VB'.out bT1
          clear UBx U0 U1
          go_wp2_with fail
          refine (is_any _ _ _ d7 r7 _ _ (IV'.out.later bT1) (by omega) (R2.out.later hc1)).mono ?_
          rintro e u2 ⟨rfl, hc2⟩
          have bT2 := bT1.trans (hc2.mono bT1.size)
          obtain ⟨SBx, S0, S1⟩ := blk2 SB'.out bT2
          obtain ⟨TBx, T0, T1⟩ := blk2 TB'.out bT2
          clear VBx V0 V1 SBx TBx
          go_wp2_with fail
          refine (same_set _ _ _ S T gs p gt q (IS'.out.later bT2) (IT'.out.later bT2) sm HI1.out).mono ?_
          rintro e u3 ⟨rfl, hc3⟩
          have bT3 := bT2.trans (hc3.mono bT2.size)
          obtain ⟨UBx, U0, U1⟩ := blk2 UB'.out bT3
          obtain ⟨VBx, V0, V1⟩ := blk2 VB'.out bT3
          clear UBx VBx S0 S1 T0 T1
          go_wp2_with fail
          refine (same_set _ _ _ (fun n => S n || T n) (fun n => S n && T n) d6 r6 d7 r7 (IU'.out.later bT3) (IV'.out.later bT3) sm HI2.out).mono ?_
          rintro e u4 ⟨rfl, hc4⟩
          have bT4 := bT3.trans (hc4.mono bT3.size)
          go_wp2
          go_ret
          exact ⟨rfl, below_from BB'.out bT4⟩
end Go.Proofs.Ytcfcoojnjdoeeaa
