/- Texts of mine in one: Bl1 Bl2. -/
import Derived.Test.YtelbjnanpmdnnaaQ51
namespace Go.Proofs.Ytelbjnanpmdnnaa
section
open Go.RowKit
set_option linter.unusedVariables false
set_option linter.unusedSimpArgs false
theorem allGo_lenB (l : List Int) : ∀ (f j : Nat) (acc : List Tk), (allGo f l j acc).length ≤ acc.length + f
  | 0, j, acc => Nat.le_refl _
  | f + 1, j, acc => by
    rw [allGo]
    split
    · rw [List.length_append]; show acc.length + 1 ≤ _; omega
    · have := allGo_lenB l f (nextF l j).to (acc ++ [nextF l j])
      rw [List.length_append] at this
      have h1 : ([nextF l j] : List Tk).length = 1 := rfl
      omega
theorem toks_lenB (zs : List Int) : (toksF zs).length ≤ zs.length + 1 := by
  have h1 := allGo_lenB (prepF (charsF zs)) ((prepF (charsF zs)).length + 1) 0 []
  have h2 : (prepF (charsF zs)).length ≤ (charsF zs).length := prepTo_len _ _
  have h3 := chars_len zs
  unfold toksF allF
  have h4 : ([] : List Tk).length = 0 := rfl
  omega
theorem declsGo_len (ts : List Tk) (E : Nat) : ∀ (f j : Nat), (declsGo ts E f j).length ≤ f
  | 0, _ => Nat.le_refl _
  | f + 1, j => by
    show (if _ then _ else _ : List Dl).length ≤ _
    split
    · split
      · exact Nat.le_succ_of_le (declsGo_len ts E f _)
      · split
        · exact Nat.le_succ_of_le (declsGo_len ts E f _)
        · split
          · exact Nat.succ_le_succ (declsGo_len ts E f _)
          · exact Nat.le_succ_of_le (declsGo_len ts E f _)
    · exact Nat.zero_le _
theorem rulesGo_len (ts : List Tk) (E : Nat) (top : Bool) : ∀ (f j : Nat), (rulesGo ts E top f j).length ≤ f
  | 0, _ => Nat.le_refl _
  | f + 1, j => by
    show (if _ then _ else _ : List Rl).length ≤ _
    split
    · split
      · exact Nat.le_succ_of_le (rulesGo_len ts E top f _)
      · split
        · exact Nat.succ_le_succ (rulesGo_len ts E top f _)
        · split
          · exact Nat.succ_le_succ (rulesGo_len ts E top f _)
          · exact Nat.zero_le _
    · exact Nat.zero_le _
set_option maxRecDepth 100000 in
set_option maxHeartbeats 8000000 in
theorem lawBlocksDecls_any (a : Option Addr) (c n : Nat) (zs : List Int) (f t : Int) (w : World) (hn : zs.length = n) (hr : Reads w .u8 a c zs) (hz : U8 zs) (hf : f ≤ 9223372036854775807) :
    Calls Try.prog 4 #[.slice a n c, .int .i64 f, .int .i64 t] w (Told (.bool true) w) := by
  subst hn
  have cS := speaks19_any w
  by_cases hbig : 3000 < zs.length
  · have q : (3000 : Int) < (zs.length : Int) := by omega
    clear hr hz
    go_enter Try.func4, Try.ntmps4
    go_wp2_with fail
    refine cS.mono ?_
    rintro e w1 ⟨rfl, hb1⟩
    go_wp2
    go_ret
    exact ⟨rfl, hb1⟩
  have q : ¬ (3000 : Int) < (zs.length : Int) := by omega
  have k2 := fun w' (hb : Below w.heap.size w w') => rread_any a zs.length c zs w' rfl (hr.later hb) hz (by omega)
  unfold TksPost at k2
  have hS := txa_short zs (by omega)
  have htl := toks_lenB zs
  generalize toksF zs = ts at *
  have hml : ts.length ≤ 3001 := by omega
  obtain ⟨A, hA⟩ : ∃ A : Nat, (A : Int) = max f 0 := ⟨(max f 0).toNat, by omega⟩
  obtain ⟨e0, he0⟩ : ∃ e0 : Nat, e0 = (min t (ts.length : Int)).toNat := ⟨_, rfl⟩
  have HA := Lib.hid hA
  have HE := Lib.hid he0
  have HS := Lib.hid hS
  have K2 := Lib.hid k2
  clear hA he0 hS k2 hr hz htl
  go_enter Try.func4, Try.ntmps4
  go_wp2_with fail
  refine cS.mono ?_
  rintro e w1 ⟨rfl, hb1⟩
  go_wp2_with fail
  refine (K2.out w1 hb1).mono ?_
  rintro e w2 ⟨a2, c2, rfl, hr2, hb2⟩
  have HB2 := Lib.hid (below_trans hb1 hb2)
  have hc2 := hr2.1; have hc2b := hr2.2.1
  unfold maxLen at hc2b
  obtain ⟨b2, rfl, t2⟩ := hr2.row
  have T2 := Lib.hid t2
  clear hr2 hb1 hb2 t2 K2 cS
  have c1 := bdecls_any (w := w2) f t A (endF ts e0 A) T2.out hc2 (by omega) (by omega) HS.out HA.out (by have := HA.out; omega) (by rw [HE.out])
  have c3 := fun w' (h : TkRow w' b2 ts.length ts) => rkdecls_any (w := w') f t A e0 (endF ts e0 A) h hc2 (by unfold maxLen; omega) (by omega) HS.out HA.out (by have := HA.out; omega) (by have := HE.out; omega) rfl
  have hle : (declsF ts (endF ts e0 A) A).length ≤ 1000000 := by
    have h1 := declsGo_len ts (endF ts e0 A) (endF ts e0 A - A) A
    have h2 := endF_le ts e0 A
    have := HE.out
    show (declsGo ts (endF ts e0 A) (endF ts e0 A - A) A).length ≤ _
    omega
  generalize declsF ts (endF ts e0 A) A = xs at *
  have C3 := Lib.hid c3
  clear c3
  go_wp2_with fail
  refine c1.mono ?_
  rintro e w3 ⟨v3, rfl, ho3, hb3⟩
  obtain ⟨a3, d3, rfl, hx3⟩ := readsC_of_own ho3
  have HB3 := Lib.hid (below_trans HB2.out hb3)
  have T3 := Lib.hid (T2.out.later hb3 T2.out.lt)
  have HX3 := Lib.hid hx3
  clear c1 ho3 hb3 hx3 HB2 T2
  go_wp2_with fail
  refine (C3.out w3 T3.out).mono ?_
  rintro e w4 ⟨v4, rfl, ho4, hb4⟩
  obtain ⟨a4, d4, rfl, hx4⟩ := readsC_of_own ho4
  have HB4 := Lib.hid (below_trans HB3.out hb4)
  have hx3 := HX3.out.later hb4
  have cX := rksameD_any a3 a4 xs.length d3 d4 xs w4 rfl hx3 hx4 hle
  clear C3 ho4 hb4 hx4 hx3 HB3 T3 HX3
  go_wp2_with fail
  refine cX.mono ?_
  rintro e w5 ⟨rfl, hb5⟩
  have HB5 := Lib.hid (below_trans HB4.out hb5)
  clear cX hb5 HB4
  go_wp2
  go_ret
  exact ⟨rfl, HB5.out⟩
end

section
open Go.RowKit
set_option linter.unusedVariables false
set_option linter.unusedSimpArgs false
def ChainR (E : Nat) : Nat → List Rl → Prop
  | _, [] => True
  | a, r :: rs => a ≤ r.frm ∧ r.frm ≤ r.to ∧ r.to ≤ E ∧ (r.has = true → r.to < r.opn ∧ r.opn ≤ r.fin ∧ r.fin ≤ E) ∧ ChainR E (if r.has = true then r.fin else r.to) rs
theorem chain_rules (ts : List Tk) (E : Nat) (top : Bool) : ∀ (n j a : Nat), E - j ≤ n → a ≤ j → j ≤ E → ChainR E a (rulesF ts E top j) := by
  intro n
  induction n with
  | zero => intro j a h _ hj; rw [rulesF_step, if_neg (by omega)]; trivial
  | succ n ih =>
    intro j a h ha hjE
    rw [rulesF_step]
    by_cases hj : j < E
    · rw [if_pos hj]
      by_cases hg : gapB top (kdA ts j) = true
      · rw [if_pos hg]; exact ih (j + 1) a (by omega) (by omega) (by omega)
      · rw [if_neg hg]
        by_cases h3 : kdA ts j = 3
        · rw [if_pos h3]
          have hb := atruleF_bounds ts E j hj
          have hs := scanF_bounds ts (isK2 17 23) E (j + 1) hj
          have key : (atruleF ts E j).1.frm = j + 1 ∧ (atruleF ts E j).1.to = scanF ts (isK2 17 23) E (j + 1) ∧ ((atruleF ts E j).1.has = true → (atruleF ts E j).1.opn = scanF ts (isK2 17 23) E (j + 1) + 1 ∧ (atruleF ts E j).1.opn ≤ (atruleF ts E j).1.fin ∧ (atruleF ts E j).1.fin ≤ (atruleF ts E j).2) ∧ (atruleF ts E j).1.to ≤ (atruleF ts E j).2 := by
            unfold atruleF
            split
            · rename_i hK
              have h5 := blkF_bounds ts E _ hK
              split
              · exact ⟨rfl, rfl, fun _ => ⟨rfl, h5.1, h5.2.2.2.2⟩, by dsimp only; omega⟩
              · exact ⟨rfl, rfl, (fun h => (by cases h)), by dsimp only; omega⟩
            · exact ⟨rfl, rfl, (fun h => (by cases h)), Nat.le_refl _⟩
          obtain ⟨k1, k2, k3, k4⟩ := key
          refine ⟨by omega, by omega, by omega, fun h => by have := k3 h; omega, ih _ _ (by omega) ?_ hb.2⟩
          split
          · rename_i hh; exact (k3 hh).2.2
          · exact k4
        · rw [if_neg h3]
          by_cases hK : scanF ts (isK 23) E j < E
          · rw [if_pos hK]
            have hb := qualF_bounds ts E j hK hjE
            have hs := scanF_bounds ts (isK 23) E j hjE
            have h5 := blkF_bounds ts E _ hK
            refine ⟨ha, hs.1, hs.2, fun _ => ⟨Nat.lt_succ_self _, h5.1, h5.2.1⟩, ih _ _ (by omega) h5.2.2.2.2 hb.2⟩
          · rw [if_neg hK]; trivial
    · rw [if_neg hj]; trivial
set_option maxRecDepth 100000 in
set_option maxHeartbeats 16000000 in
theorem lawBlocksRules_any (a : Option Addr) (c n : Nat) (zs : List Int) (f t : Int) (top : Bool) (w : World) (hn : zs.length = n) (hr : Reads w .u8 a c zs) (hz : U8 zs) (hf : f ≤ 9223372036854775807) :
    Calls Try.prog 3 #[.slice a n c, .int .i64 f, .int .i64 t, .bool top] w (Told (.bool true) w) := by
  subst hn
  have cS := speaks19_any w
  by_cases hbig : 3000 < zs.length
  · have q : (3000 : Int) < (zs.length : Int) := by omega
    clear hr hz
    go_enter Try.func3, Try.ntmps3
    go_wp2_with fail
    refine cS.mono ?_
    rintro e w1 ⟨rfl, hb1⟩
    go_wp2
    go_ret
    exact ⟨rfl, hb1⟩
  have q : ¬ (3000 : Int) < (zs.length : Int) := by omega
  have k2 := fun w' (hb : Below w.heap.size w w') => rread_any a zs.length c zs w' rfl (hr.later hb) hz (by omega)
  unfold TksPost at k2
  have hS := txa_short zs (by omega)
  have htl := toks_lenB zs
  generalize toksF zs = ts at *
  have hml : ts.length ≤ 3001 := by omega
  obtain ⟨A, hA⟩ : ∃ A : Nat, (A : Int) = max f 0 := ⟨(max f 0).toNat, by omega⟩
  obtain ⟨e0, he0⟩ : ∃ e0 : Nat, e0 = (min t (ts.length : Int)).toNat := ⟨_, rfl⟩
  have HA := Lib.hid hA
  have HE := Lib.hid he0
  have HS := Lib.hid hS
  have K2 := Lib.hid k2
  clear hA he0 hS k2 hr hz htl
  go_enter Try.func3, Try.ntmps3
  go_wp2_with fail
  refine cS.mono ?_
  rintro e w1 ⟨rfl, hb1⟩
  go_wp2_with fail
  refine (K2.out w1 hb1).mono ?_
  rintro e w2 ⟨a2, c2, rfl, hr2, hb2⟩
  have HB2 := Lib.hid (below_trans hb1 hb2)
  have hc2 := hr2.1; have hc2b := hr2.2.1
  unfold maxLen at hc2b
  obtain ⟨b2, rfl, t2⟩ := hr2.row
  have T2 := Lib.hid t2
  clear hr2 hb1 hb2 t2 K2 cS
  have c1 := brules_any (w := w2) f t top A (endF ts e0 A) T2.out hc2 (by omega) (by omega) HS.out HA.out (by have := HA.out; omega) (by rw [HE.out])
  have c3 := fun w' (h : TkRow w' b2 ts.length ts) => rkrules_any (w := w') f t top A e0 (endF ts e0 A) h hc2 (by unfold maxLen; omega) (by omega) HS.out HA.out (by have := HA.out; omega) (by have := HE.out; omega) rfl
  have c5 := fun w' (h : TkRow w' b2 ts.length ts) => rkcut_any (w := w') f t A e0 h hc2 (by unfold maxLen; omega) (by omega) HA.out (by have := HA.out; omega) (by have := HE.out; omega)
  have hle : (rulesF ts (endF ts e0 A) top A).length ≤ 1000000 := by
    have h1 := rulesGo_len ts (endF ts e0 A) top (endF ts e0 A - A) A
    have h2 := endF_le ts e0 A
    have := HE.out
    show (rulesGo ts (endF ts e0 A) top (endF ts e0 A - A) A).length ≤ _
    omega
  have hch := chain_rules ts (endF ts e0 A) top _ A A (Nat.le_refl _) (Nat.le_refl _) (endF_ge ts e0 A)
  have hEb : endF ts e0 A ≤ 9223372036854775807 := by
    have h2 := endF_le ts e0 A
    have := HE.out
    have := HA.out
    omega
  generalize rulesF ts (endF ts e0 A) top A = xs at *
  generalize endF ts e0 A = E at *
  have C3 := Lib.hid c3
  have C5 := Lib.hid c5
  have HCH := Lib.hid hch
  clear c3 c5 hch
  go_wp2_with fail
  refine c1.mono ?_
  rintro e w3 ⟨v3, rfl, ho3, hb3⟩
  obtain ⟨a3, d3, rfl, hx3⟩ := readsC_of_own ho3
  have HB3 := Lib.hid (below_trans HB2.out hb3)
  have T3 := Lib.hid (T2.out.later hb3 T2.out.lt)
  have HX3 := Lib.hid hx3
  clear c1 ho3 hb3 hx3 HB2 T2
  go_wp2_with fail
  refine (C3.out w3 T3.out).mono ?_
  rintro e w4 ⟨v4, rfl, ho4, hb4⟩
  obtain ⟨a4, d4, rfl, hx4⟩ := readsC_of_own ho4
  have HB4 := Lib.hid (below_trans HB3.out hb4)
  have HX4 := Lib.hid (HX3.out.later hb4)
  have T4 := Lib.hid (T3.out.later hb4 T3.out.lt)
  have cX := rksameR_any a3 a4 xs.length d3 d4 xs w4 rfl HX4.out hx4 hle
  clear C3 ho4 hb4 hx4 HB3 T3 HX3
  go_wp2_with fail
  refine cX.mono ?_
  rintro e w5 ⟨rfl, hb5⟩
  have HB5 := Lib.hid (below_trans HB4.out hb5)
  have HX5 := Lib.hid (HX4.out.later hb5)
  have c6 := C5.out w5 (T4.out.later hb5 T4.out.lt)
  clear cX hb5 HB4 HX4 T4 C5
  go_wp2_with fail
  refine c6.mono ?_
  rintro e wq ⟨rfl, hwq⟩; replace hwq := hwq.symm; subst hwq
  clear c6
  have hd3 := HX5.out.1
  have hd4 := HX5.out.2.1
  unfold maxLen at hd4
  go_wp2_with fail
  go_loopw [11, 44] (fun v11 v44 wr => ∃ (k P : Nat), v11 = .int .i64 P ∧ v44 = .int .i64 k ∧ k ≤ xs.length ∧ Hid (ChainR E P (xs.drop k)) ∧ Hid (Below w5.heap.size w5 wr)) (fun _ v44 _ => xs.length - (intOf v44).toNat)
  case atStart => exact ⟨0, A, rfl, rfl, by omega, HCH, Lib.hid (Below.refl _ _)⟩
  case round =>
    obtain ⟨k, P, rfl, rfl, hk, hC, hbl⟩ := hrel
    by_cases hlt : k < xs.length
    · have hlt' : (k : Int) < (xs.length : Int) := by omega
      have hch2 := hC.out
      rw [List.drop_eq_getElem_cons hlt] at hch2
      obtain ⟨g1, g2, g3, g4, g5⟩ := hch2
      have ht : xs[k]? = some (xs[k]'hlt) := List.getElem?_eq_getElem hlt
      obtain ⟨b1, rfl, hc1⟩ := (HX5.out.later hbl.out).at_rlCells hlt
      have x0 : wr.cell? ⟨b1, k * 7, none⟩ = some (.bool (xs[k]'hlt).at_) := hc1 k 0 _ _ ht (by decide) rfl
      have x1 := hc1 k 1 _ _ ht (by decide) rfl
      have x2 := hc1 k 2 _ _ ht (by decide) rfl
      have x3 := hc1 k 3 _ _ ht (by decide) rfl
      have x4 := hc1 k 4 _ _ ht (by decide) rfl
      have x5 := hc1 k 5 _ _ ht (by decide) rfl
      have x6 := hc1 k 6 _ _ ht (by decide) rfl
      generalize xs[k]'hlt = r at *
      obtain ⟨r0, r1, r2, r3, r4, r5, r6⟩ := r
      dsimp only at g1 g2 g3 g4 g5 x0 x1 x2 x3 x4 x5 x6
      have HG5 := Lib.hid g5
      have hw1 := hbl.out.size
      have B1 : Blk (wr.alloc (.cells [.bool r0, .string r1, .int .i64 r2, .int .i64 r3, .bool r4, .int .i64 r5, .int .i64 r6].toArray 32)) wr.heap.size [.bool r0, .string r1, .int .i64 r2, .int .i64 r3, .bool r4, .int .i64 r5, .int .i64 r6] 32 := Blk.alloc _ _
      have HB6 := Lib.hid (hbl.out.alloc hw1 (.cells [.bool r0, .string r1, .int .i64 r2, .int .i64 r3, .bool r4, .int .i64 r5, .int .i64 r6].toArray 32))
      have i1 : ¬ (r2 : Int) < (P : Int) := by omega
      have i2 : ¬ (r3 : Int) < (r2 : Int) := by omega
      have i3 : ¬ (E : Int) < (r3 : Int) := by omega
      clear hc1 ht g5 hC
      go_upto_region 13 with (fail)
      generalize wr.alloc (.cells [.bool r0, .string r1, .int .i64 r2, .int .i64 r3, .bool r4, .int .i64 r5, .int .i64 r6].toArray 32) = w6 at *
      generalize wr.heap.size = p at *
      have c2 := B1.cell 2 _ rfl
      have c3 := B1.cell 3 _ rfl
      have c4 := B1.cell 4 _ rfl
      have c5 := B1.cell 5 _ rfl
      have c6 := B1.cell 6 _ rfl
      clear x0 x1 x2 x3 x4 x5 x6 B1 hbl
      cases r4 with
      | true =>
        have g6 := g4 rfl
        have i4 : ¬ (r5 : Int) ≤ (r3 : Int) - 1 := by omega
        have i5 : ¬ (r6 : Int) < (r5 : Int) := by omega
        have i6 : ¬ (E : Int) < (r6 : Int) := by omega
        have HC : Hid (ChainR E r6 (xs.drop (k + 1))) := Lib.hid (by have := HG5.out; rw [if_pos rfl] at this; exact this)
        clear g4 g6 HG5
        have r3b : (r3 : Int) ≤ 9223372036854775807 := by omega
        go_wp2
        go_roundw
        case rel => exact ⟨k + 1, r6, by go_num, by go_num, by omega, HC, HB6⟩
        case measure => simp [intOf]; omega
      | false =>
        have HC : Hid (ChainR E r3 (xs.drop (k + 1))) := Lib.hid (by have := HG5.out; rw [if_neg (by simp)] at this; exact this)
        clear g4 HG5
        go_wp2
        go_roundw
        case rel => exact ⟨k + 1, r3, by go_num, by go_num, by omega, HC, HB6⟩
        case measure => simp [intOf]; omega
    · have hlt' : ¬ (k : Int) < (xs.length : Int) := by omega
      clear hC
      go_wp2
      go_ret
      exact ⟨rfl, HB5.out.trans (hbl.out.mono HB5.out.size)⟩
end
end Go.Proofs.Ytelbjnanpmdnnaa
