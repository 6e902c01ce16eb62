/- A document in new memory: the walk of the law's copied. -/
import Derived.Test.YtfgnepbpfglepaaDm7
namespace Go.Proofs.Ytfgnepbpfglepaa
open Go.RowKit
set_option linter.unusedVariables false
set_option linter.unusedSimpArgs false

theorem TryinfoNode : (Try.prog.info? 44).map (fun i => (i.zero, i.size, i.bytes)) = some (some (.agg #[.int .i64 0, .int .i64 0, .string ⟨#[]⟩, .string ⟨#[]⟩, .slice none 0 0, .slice none 0 0, .string ⟨#[]⟩]), 7, 112) := by kernel_rfl
theorem TryinfoAttr : (Try.prog.info? 56).map (fun i => (i.zero, i.size, i.bytes)) = some (some (.agg #[.string ⟨#[]⟩, .string ⟨#[]⟩, .string ⟨#[]⟩]), 3, 48) := by kernel_rfl
theorem TryinfoStr : (Try.prog.info? 9).map (fun i => (i.zero, i.size, i.bytes)) = some (some (.string ⟨#[]⟩), 1, 16) := by kernel_rfl
/-- A document that reads as one, with what a copy has. -/
def CopyP (xs : List Nd) (n : Nat) (w : World) (e : Ending) (w' : World) : Prop := ∃ a c, e = .returned (.slice a n c) ∧ RdN (fun b => w.heap.size ≤ b ∧ b < w'.heap.size ∨ b < w.heap.size) w' a n c xs ∧ Below w.heap.size w w'

/-- What is known when a part of one's own row has been written over behind the append of another row. -/
theorem copy_step {w wr w5 : World} {g : Nat} {cs : List Value} {T T2 T3 : TypeId} {i4 : Nat} (hB : Blk wr g cs T) (hi : i4 < cs.length) (hW : Below w.heap.size w wr) (hg : w.heap.size ≤ g) (hgr : (wr.alloc (.cells #[] T2)).grownBy w5 (some wr.heap.size)) (v : Value) :
    ∃ o4, w5.cell? ⟨g, i4, none⟩ = some o4 ∧ w5.frozen? ⟨g, i4, none⟩ = false ∧ Blk (w5.setCell ⟨g, i4, none⟩ v) g (cs.set i4 v) T ∧ Below w.heap.size w (w5.setCell ⟨g, i4, none⟩ v) ∧
      Below w.heap.size w ((w5.setCell ⟨g, i4, none⟩ v).alloc (.cells #[] T3)) ∧ (w5.setCell ⟨g, i4, none⟩ v).heap.size = w5.heap.size ∧
      ((w5.setCell ⟨g, i4, none⟩ v).alloc (.cells #[] T3)).ownsRow w5.heap.size T3 1 (.slice (some ⟨w5.heap.size, 0, none⟩) 0 0) 0 [] ∧
      (∀ b, b < wr.heap.size → b ≠ g → (w5.setCell ⟨g, i4, none⟩ v).heap[b]? = wr.heap[b]?) ∧ wr.heap.size < w5.heap.size := by
  have hlt := hB.lt
  have hne : (some wr.heap.size : Option Nat) ≠ some g := by intro h; have := Option.some.inj h; omega
  have hB5 : Blk w5 g cs T := (hB.alloc_old _).kept hgr hne
  have hb5 : Below w.heap.size w w5 := (hW.alloc hW.size (.cells #[] T2)).grown hgr (Nat.le_trans hW.size (by simp)) (fun k e => by cases e; exact hW.size)
  obtain ⟨o4, ho4⟩ : ∃ u, cs[i4]? = some u := ⟨_, List.getElem?_eq_getElem hi⟩
  have hb6 := hb5.setCell (p := ⟨g, i4, none⟩) hg v
  have hz : (w5.setCell ⟨g, i4, none⟩ v).heap.size = w5.heap.size := by simp
  have ho := owns_emptyN (base := w5.heap.size) (g := w5.heap.size) 1 (w := (w5.setCell ⟨g, i4, none⟩ v).alloc (.cells #[] T3)) (e := T3) (by have := heap_alloc_new (w5.setCell ⟨g, i4, none⟩ v) (.cells #[] T3); rw [hz] at this; exact this) (Nat.le_refl _)
  refine ⟨o4, hB5.cell _ _ ho4, hB5.frozen _, hB5.setCell i4 v, hb6, hb6.alloc hb6.size _, hz, ho, fun b hb hbg => ?_, by have := hgr.size; simp at this; omega⟩
  rw [Below.heap_setCell w5 ⟨g, i4, none⟩ v b hbg, hgr.block b (by simp; omega) (by intro h; have := Option.some.inj h; omega), Below.heap_alloc wr _ b hb]
theorem vals_weak {n : Nat} {a : Option Addr} {ok : Nat → Prop} {w : World} {vs : List Value} {Y : Nat → Nat → Prop} (h : n = 0 ∨ ∃ b off, a = some ⟨b, off, none⟩ ∧ ok b ∧ (∀ j u, vs[j]? = some u → w.cell? ⟨b, off + j, none⟩ = some u) ∧ Y b off) :
    n = 0 ∨ ∃ b off, a = some ⟨b, off, none⟩ ∧ ∀ (j : Nat) (u : Value), vs[j]? = some u → w.cell? ⟨b, off + j, none⟩ = some u := by
  rcases h with h | ⟨b, off, h1, _, h3, _⟩
  · exact .inl h
  · exact .inr ⟨b, off, h1, h3⟩
/-- All nodes read as they did, when one's lists have been written over by lists that read the same. -/
theorem copy_end {wr w6 w9 : World} {g k n1 n2 c1 c2 : Nat} {cs : List Value} {xs : List Nd} {x : Nd} {ad1 ad2 : Option Addr} (hl : k * 7 + 5 < cs.length) (hx : xs[k]? = some x)
    (hgl : g < wr.heap.size) (h69 : w6.heap.size < w9.heap.size) (hr6 : wr.heap.size < w6.heap.size)
    (hN : ∀ i x, xs[i]? = some x → NdC (fun b => b < wr.heap.size ∧ b ≠ g) wr cs (i * 7) x)
    (h1 : ∀ b, b < wr.heap.size → b ≠ g → w6.heap[b]? = wr.heap[b]?) (h2 : ∀ b, b < w6.heap.size → b ≠ g → w9.heap[b]? = w6.heap[b]?)
    (hA : RdA (fun b => wr.heap.size ≤ b ∧ b < w6.heap.size) w6 ad1 n1 c1 x.attrs) (hS : RdS (fun b => w6.heap.size ≤ b ∧ b < w9.heap.size) w9 ad2 n2 c2 x.states) :
    ∀ i x, xs[i]? = some x → NdC (fun b => b < w9.heap.size ∧ b ≠ g) w9 ((cs.set (k * 7 + 4) (.slice ad1 n1 c1)).set (k * 7 + 5) (.slice ad2 n2 c2)) (i * 7) x := by
  intro i y hy
  have hm : NdC (fun b => b < w9.heap.size ∧ b ≠ g) w9 cs (i * 7) y := (hN i y hy).move (fun b ⟨hb, hbg⟩ => ⟨⟨by omega, hbg⟩, (h2 b (by omega) hbg).trans (h1 b hb hbg)⟩)
  refine (hm.set4 (by omega) (fun e => ?_)).set5 (by rw [List.length_set]; omega) (fun e => ?_)
  · subst e
    rw [hx] at hy; cases hy
    exact hA.move (fun b ⟨hb1, hb2⟩ => ⟨⟨by omega, by omega⟩, h2 b hb2 (by omega)⟩)
  · subst e
    rw [hx] at hy; cases hy
    exact hS.move (fun b ⟨hb1, hb2⟩ => ⟨⟨hb2, by omega⟩, rfl⟩)

set_option maxRecDepth 100000 in
set_option maxHeartbeats 8000000 in
theorem copied_any (xs : List Nd) (a : Option Addr) (n c : Nat) (w : World) (hx : RdN (· < w.heap.size) w a n c xs) (hn : n ≤ 200) (hsm : ∀ x ∈ xs, x.attrs.length ≤ 20 ∧ x.states.length ≤ 20) :
    Calls Try.prog 11 #[.slice a n c] w (CopyP xs n w) := by
  obtain ⟨iN, hiN, hzN⟩ := Option.map_eq_some_iff.1 TryinfoNode
  obtain ⟨iA, hiA, hzA⟩ := Option.map_eq_some_iff.1 TryinfoAttr
  obtain ⟨iS, hiS, hzS⟩ := Option.map_eq_some_iff.1 TryinfoStr
  simp only [Prod.mk.injEq] at hzN hzA hzS
  have HIN := Lib.hid (And.intro hiN hzN)
  have HIA := Lib.hid (And.intro hiA hzA)
  have HIS := Lib.hid (And.intro hiS hzS)
  clear hiN hzN hiA hzA hiS hzS
  obtain ⟨vs, hvl, hvo, hv⟩ := rdOf_vals w hx (by decide) (fun b o x h => nodeAt_cells h)
  have HX := Lib.hid hx
  have HVL := Lib.hid hvl
  have HVO := Lib.hid hvo
  have HV := Lib.hid hv
  have HSM := Lib.hid hsm
  have HN := Lib.hid hx.1
  have HNL := Lib.hid hx.2.2.1.2.2
  have hbE := (Below.refl w.heap.size w).alloc (Nat.le_refl _) (.cells #[] 44)
  have HE := Lib.hid hbE
  have HO := Lib.hid (owns_emptyN (base := w.heap.size) 7 (heap_alloc_new w (.cells #[] 44)) (Nat.le_refl _))
  have HR0 := Lib.hid (show n = 0 ∨ ∃ b off, a = some ⟨b, off, none⟩ ∧ ∀ (j : Nat) (u : Value), vs[j]? = some u → (w.alloc (.cells #[] 44)).cell? ⟨b, off + j, none⟩ = some u from hv.imp id (fun ⟨b, off, h1, h2, h3, _⟩ => ⟨b, off, h1, fun j u hu => (hbE.cell (p := ⟨b, off + j, none⟩) h2).trans (h3 j u hu)⟩))
  clear hx hvl hvo hv hsm hbE
  rcases Nat.eq_zero_or_pos n with hz | hpos
  · subst hz
    have hxs : xs = [] := List.length_eq_zero_iff.1 HN.out.symm
    go_enter Try.func11, Try.ntmps11
    go_wp2_with (at_builtin; refine wpList_append_rows rfl _ _ 22 rfl w.heap.size 44 iN _ 7 112 Try.underlying22 HIN.out.1 HIN.out.2.1 rfl (by decide) HIN.out.2.2.1 HIN.out.2.2.2 _ 0 [] rfl HO.out a 0 c vs HVL.out rfl HVO.out HR0.out HNL.out (by unfold maxLen; omega) (by omega) (by simp) ?_; intro v4 w4 hown4 hgr4; have HO4 := Lib.hid hown4; have HE4 := Lib.hid (show Below w.heap.size w w4 from HE.out.grown hgr4 (by simp) (fun k e => by cases e; exact Nat.le_refl _)); obtain ⟨ad, cap, rfl, hcap, hnil⟩ := own_none (by simpa using hown4))
    go_loopw [10] (fun i wr => i = .int .i64 0 ∧ wr = w4) (fun _ _ => 0)
    case atStart => exact ⟨rfl, rfl⟩
    case round =>
      obtain ⟨rfl, rfl⟩ := hrel
      go_wp2
      go_ret
      exact ⟨ad, cap, rfl, by rw [hxs]; exact RdOf.nil _ _ _ _ _ hcap hnil, HE4.out⟩
  go_enter Try.func11, Try.ntmps11
  go_wp2_with (at_builtin; refine wpList_append_rows rfl _ _ 22 rfl w.heap.size 44 iN _ 7 112 Try.underlying22 HIN.out.1 HIN.out.2.1 rfl (by decide) HIN.out.2.2.1 HIN.out.2.2.2 _ 0 [] rfl HO.out a n c vs HVL.out rfl HVO.out HR0.out HNL.out (by unfold maxLen; omega) (by omega) (by simp) ?_; intro v4 w4 hown4 hgr4; have HO4 := Lib.hid hown4; have HE4 := Lib.hid (show Below w.heap.size w w4 from HE.out.grown hgr4 (by simp) (fun k e => by cases e; exact Nat.le_refl _)); have hown5 : w4.ownsRow w.heap.size 44 7 v4 n vs := (by simpa using hown4); obtain ⟨g, cap, cs0, rfl, hg, hB4, hc1, hc2, hc3, hnd⟩ := own_nodes (ok := (· < w.heap.size)) (ok' := (· < w.heap.size)) HX.out HVL.out hpos HV.out (fun b hb => ⟨hb, HE4.out.block b hb⟩) hown5; have hcapm : cap ≤ 9223372036854775807 := hc2; have hnm : n ≤ 9223372036854775807 := Nat.le_trans hc1 hc2)
  have HND0 := Lib.hid (show ∀ i x, xs[i]? = some x → NdC (fun b => b < w4.heap.size ∧ b ≠ g) w4 cs0 (i * 7) x from fun i x h => (hnd i x h).move (fun b hb => ⟨⟨Nat.lt_of_lt_of_le hb HE4.out.size, by omega⟩, rfl⟩))
  clear hnd HO4 HE HO HR0
  go_loopw [10] (fun i wr => ∃ (k : Nat) (cs : List Value), k ≤ n ∧ i = .int .i64 k ∧ Hid (Blk wr g cs 44) ∧ Hid (cs.length = cap * 7) ∧ Hid (∀ i x, xs[i]? = some x → NdC (fun b => b < wr.heap.size ∧ b ≠ g) wr cs (i * 7) x) ∧ Hid (Below w.heap.size w wr)) (fun i _ => n - (intOf i).toNat)
  case atStart => exact ⟨0, cs0, Nat.zero_le _, rfl, Lib.hid hB4, Lib.hid hc3, HND0, HE4⟩
  case round =>
    obtain ⟨k, cs, hk, rfl, HB, HL, HND, HW⟩ := hrel
    by_cases hlt : k < n
    · obtain ⟨x, hxk⟩ : ∃ x, xs[k]? = some x := ⟨_, List.getElem?_eq_getElem (by rw [← HN.out]; exact hlt)⟩
      obtain ⟨b, off, rfl, hb, _, _, _, _, ⟨a1, n1, c1, x4, hA1⟩, ⟨a2, n2, c2, x5, hS1⟩, _⟩ := HX.out.at k x hxk
      have hsx := HSM.out x (List.mem_of_getElem? hxk)
      have hn1 : n1 ≤ 20 := by rw [hA1.1]; exact hsx.1
      have hn2 : n2 ≤ 20 := by rw [hS1.1]; exact hsx.2
      have hkI : (0 : Int) ≤ (k : Int) := by omega
      have hkI2 : (k : Int) < (n : Int) := by omega
      have hkc : (k : Int) < (cap : Int) := by omega
      have hgl := HB.out.lt
      have hwg : w.heap.size ≤ wr.heap.size := HW.out.size
      -- the world with the first empty row
      have hb1 := HW.out.alloc hwg (.cells #[] 56)
      have hx4 : (wr.alloc (.cells #[] 56)).cell? ⟨b, off + k * 7 + 4, none⟩ = some (.slice a1 n1 c1) := (hb1.cell (p := ⟨b, off + k * 7 + 4, none⟩) hb).trans x4
      have hA1' := hA1.move (ok' := (· < w.heap.size)) (w' := wr.alloc (.cells #[] 56)) (fun bl h => ⟨h, hb1.block bl h⟩)
      obtain ⟨va, hva1, hva2, hva3⟩ := rdOf_vals (wr.alloc (.cells #[] 56)) hA1' (by decide) (fun b o x h => attrAt_cells h)
      have HO1 := Lib.hid (owns_emptyN (base := wr.heap.size) 3 (heap_alloc_new wr (.cells #[] 56)) (Nat.le_refl _))
      have hBA := HB.out.alloc_old (.cells #[] 56)
      have HBA := Lib.hid hBA
      have HVA1 := Lib.hid hva1
      have HVA2 := Lib.hid hva2
      have HVA3 := Lib.hid hva3
      have HA1 := Lib.hid hA1'
      have HSS := Lib.hid hS1
      have HXK := Lib.hid hxk
      have HB1 := Lib.hid hb1
      have HVR := Lib.hid (show n1 = 0 ∨ ∃ b off, a1 = some ⟨b, off, none⟩ ∧ ∀ (j : Nat) (u : Value), va[j]? = some u → (wr.alloc (.cells #[] 56)).cell? ⟨b, off + j, none⟩ = some u from hva3.imp id (fun ⟨b, off, h1, _, h3, _⟩ => ⟨b, off, h1, h3⟩))
      have HNL1 := Lib.hid hA1'.2.2.1.2.2
      have HNL2 := Lib.hid hS1.2.2.1.2.2
      have HX5 := Lib.hid x5
      have hkl : k * 7 + 5 < cs.length := by rw [HL.out]; omega
      have HKL := Lib.hid hkl
      clear hxk hsx hA1 hS1 x4 x5 hb1 hA1' hva1 hva2 hva3 hBA hkl
      go_wp2_with (first
        | (at_builtin; refine wpList_append_rows rfl _ _ 41 rfl wr.heap.size 56 iA _ 3 48 Try.underlying41 HIA.out.1 HIA.out.2.1 rfl (by decide) HIA.out.2.2.1 HIA.out.2.2.2 _ 0 [] rfl HO1.out a1 n1 c1 va HVA1.out rfl HVA2.out HVR.out HNL1.out (by unfold maxLen; omega) (by omega) (by simp) ?_; intro v5 w5 hown5 hgr5; have hown6 : w5.ownsRow wr.heap.size 56 3 v5 n1 va := (by simpa using hown5); obtain ⟨ad1, cap1, rfl, hR1⟩ := own_attrs HA1.out HVA1.out HVA3.out hown6; have hF := copy_step (T3 := 9) (i4 := k * 7 + 4) HB.out (show k * 7 + 4 < cs.length from Nat.lt_trans (by omega) HKL.out) HW.out hg hgr5 (.slice ad1 n1 cap1); obtain ⟨o4, s4, f4, hB6, hb6, hb7, hz6, ho7, hk6, hs6⟩ := hF; have x5' := (hb7.cell (p := ⟨b, off + k * 7 + 5, none⟩) hb).trans HX5.out; have hS7 := HSS.out.move (ok' := (· < w.heap.size)) (w' := ((w5.setCell ⟨g, k * 7 + 4, none⟩ (.slice ad1 n1 cap1)).alloc (.cells #[] 9))) (fun bl h => ⟨h, hb7.block bl h⟩); obtain ⟨ub, hub1, hub2, hub3⟩ := rdOf_vals ((w5.setCell ⟨g, k * 7 + 4, none⟩ (.slice ad1 n1 cap1)).alloc (.cells #[] 9)) hS7 (by decide) (fun b o x h => strAt_cells h); have HO7 := Lib.hid ho7; have HUB1 := Lib.hid hub1; have HUB2 := Lib.hid hub2; have HUB3 := Lib.hid hub3; have HS7 := Lib.hid hS7; have HVU := Lib.hid (vals_weak hub3); have HB6 := Lib.hid hB6; have HW6 := Lib.hid hb6; have HW7 := Lib.hid hb7; have HZ6 := Lib.hid hz6; have HR1 := Lib.hid hR1; have HK6 := Lib.hid hk6; have HS6 := Lib.hid hs6; clear hub1 hub2 hub3 hS7 hB6 hb7 hR1 hb6 hown5 hown6 hgr5 ho7 hk6 hs6)
        | (at_builtin; refine wpList_append_rows rfl _ _ 42 rfl w5.heap.size 9 iS _ 1 16 Try.underlying42 HIS.out.1 HIS.out.2.1 rfl (by decide) HIS.out.2.2.1 HIS.out.2.2.2 _ 0 [] rfl HO7.out a2 n2 c2 ub HUB1.out rfl HUB2.out HVU.out HNL2.out (by unfold maxLen; omega) (by omega) (by simp) ?_; intro v8 w8 hown8 hgr8; have hown9 : w8.ownsRow w5.heap.size 9 1 v8 n2 ub := (by simpa using hown8); obtain ⟨ad2, cap2, rfl, hR2⟩ := own_strs HS7.out HUB1.out HUB3.out hown9; have hgr9 : ((w5.setCell ⟨g, k * 7 + 4, none⟩ (.slice ad1 n1 cap1)).alloc (.cells #[] 9)).grownBy w8 (some (w5.setCell ⟨g, k * 7 + 4, none⟩ (.slice ad1 n1 cap1)).heap.size) := (by rw [HZ6.out]; exact hgr8); have hF2 := copy_step (T3 := 9) (i4 := k * 7 + 5) HB6.out (show k * 7 + 5 < (cs.set (k * 7 + 4) (.slice ad1 n1 cap1)).length from (by rw [List.length_set]; exact HKL.out)) HW6.out hg hgr9 (.slice ad2 n2 cap2); obtain ⟨o5, s5, f5, hB9, hb9, _, hz9, _, hk9, hs9⟩ := hF2; have HB9 := Lib.hid hB9; have HW9 := Lib.hid hb9; have HZ9 := Lib.hid hz9; have HK9 := Lib.hid hk9; have HS9 := Lib.hid hs9; have HR2 := Lib.hid hR2; clear hB9 hb9 hz9 hk9 hs9 hR2 hown8 hown9 hgr8 hgr9))
      go_roundw
      case rel =>
        refine ⟨k + 1, _, by omega, by go_num, HB9, Lib.hid (by rw [List.length_set, List.length_set]; exact HL.out), Lib.hid ?_, HW9⟩
        have hA6 := HR1.out.move (ok' := fun b => wr.heap.size ≤ b ∧ b < (w5.setCell ⟨g, k * 7 + 4, none⟩ (.slice ad1 n1 cap1)).heap.size) (w' := (w5.setCell ⟨g, k * 7 + 4, none⟩ (.slice ad1 n1 cap1))) (fun bl h => ⟨⟨h.1, by rw [HZ6.out]; exact h.2⟩, Below.heap_setCell w5 ⟨g, k * 7 + 4, none⟩ _ bl (by show bl ≠ g; have := h.1; omega)⟩)
        have hS9 := HR2.out.move (ok' := fun b => (w5.setCell ⟨g, k * 7 + 4, none⟩ (.slice ad1 n1 cap1)).heap.size ≤ b ∧ b < (w8.setCell ⟨g, k * 7 + 5, none⟩ (.slice ad2 n2 cap2)).heap.size) (w' := w8.setCell ⟨g, k * 7 + 5, none⟩ (.slice ad2 n2 cap2)) (fun bl h => ⟨⟨by rw [HZ6.out]; exact h.1, by rw [HZ9.out]; exact h.2⟩, Below.heap_setCell w8 ⟨g, k * 7 + 5, none⟩ _ bl (by show bl ≠ g; have := h.1; have := HS6.out; omega)⟩)
        exact copy_end HKL.out HXK.out hgl (by rw [HZ9.out]; exact HS9.out) (by rw [HZ6.out]; exact HS6.out) HND.out HK6.out HK9.out hA6 hS9
      case measure => simp [intOf]; omega
    · have hkI : ¬ (k : Int) < (n : Int) := by omega
      have hgl := HB.out.lt
      go_wp2
      go_ret
      refine ⟨_, cap, rfl, ⟨HN.out, hc1, ⟨hc2, by omega, fun h => by cases h⟩, .inr ⟨g, 0, rfl, .inl ⟨hg, hgl⟩, fun i x hx => ?_⟩⟩, HW.out⟩
      rw [Nat.zero_add]
      exact ((HND.out i x hx).move (fun b hb => ⟨by have := hb.1; omega, rfl⟩)).at HB.out
end Go.Proofs.Ytfgnepbpfglepaa
