/- Lists of texts, of attributes copied, by the program: walks. -/
import Derived.Test.YtfgnepbpfglepaaDo1
namespace Go.Proofs.Ytfgnepbpfglepaa
open Go.RowKit
set_option linter.unusedVariables false
set_option linter.unusedSimpArgs false

theorem make_any (t e : TypeId) (z : Value) (sz bytes : Nat) (ht : Try.prog.underlying t = some (.slice e)) (hinfo : (Try.prog.info? e).map (fun i => (i.zero, i.size, i.bytes)) = some (some z, sz, bytes))
    (n : Nat) (hbytes : bytes * n ≤ 281474976710656) (h63 : n ≤ 9223372036854775807) (w : World) :
    (Instr.makeSlice t (.int .i64 (n : Int)) (.int .i64 (n : Int))).run Try.prog w = .ok (.slice (some ⟨w.heap.size, 0, none⟩) n n) (w.alloc (.cells (madeCells z.cells (n * sz)) e)) := by
  obtain ⟨i, hi, hzz⟩ := Option.map_eq_some_iff.1 hinfo
  simp only [Prod.mk.injEq] at hzz
  obtain ⟨hz, hs, hb⟩ := hzz
  have hb' : (i.bytes : Int) * (n : Int) ≤ 281474976710656 := by
    have h : ((i.bytes * n : Nat) : Int) ≤ 281474976710656 := by rw [hb]; omega
    rwa [Int.natCast_mul] at h
  have hr := run_make (P := Try.prog) w t e i z ht hi hz .i64 .i64 n n (by omega) (Int.le_refl _) hb' (by omega)
  simp only [Int.toNat_natCast] at hr
  rw [hs] at hr
  exact hr
theorem made_blk (w : World) (zc : Array Value) (m : Nat) (T : TypeId) : ∃ cs : List Value, cs.length = m ∧ Blk (w.alloc (.cells (madeCells zc m) T)) w.heap.size cs T :=
  ⟨(madeCells zc m).toList, by rw [Array.length_toList, size_madeCells], by
    have := Blk.alloc (w := w) (madeCells zc m).toList T
    simpa using this⟩

/-- A list copied: it reads the same, in new memory. -/
def CopyS (xs : List ByteArray) (n : Nat) (w : World) (e : Ending) (w' : World) : Prop := ∃ g, e = .returned (.slice (some ⟨g, 0, none⟩) n n) ∧ RdS (fun b => w.heap.size ≤ b ∧ b < w'.heap.size) w' (some ⟨g, 0, none⟩) n n xs ∧ Below w.heap.size w w'
def CopyA (xs : List At3) (n : Nat) (w : World) (e : Ending) (w' : World) : Prop := ∃ g, e = .returned (.slice (some ⟨g, 0, none⟩) n n) ∧ RdA (fun b => w.heap.size ≤ b ∧ b < w'.heap.size) w' (some ⟨g, 0, none⟩) n n xs ∧ Below w.heap.size w w'

set_option maxRecDepth 100000 in
set_option maxHeartbeats 2000000 in
theorem copiedS_any (xs : List ByteArray) (a : Option Addr) (n c : Nat) (ok : Nat → Prop) (w : World) (hx : RdS ok w a n c xs) (hok : ∀ b, ok b → b < w.heap.size) (hn : n ≤ 1000000) :
    Calls Try.prog 65 #[.slice a n c, .func (.func 62) #[] #[]] w (CopyS xs n w) := by
  have hmk := make_any 42 9 _ 1 16 Try.underlying42 TryinfoStr n (by omega) (by omega)
  obtain ⟨cs0, hl0, hB0⟩ := made_blk w (Value.string ⟨#[]⟩).cells (n * 1) 9
  have hb0 := (Below.refl w.heap.size w).alloc (Nat.le_refl _) (.cells (madeCells (Value.string ⟨#[]⟩).cells (n * 1)) 9)
  have hm : n ≤ 9223372036854775807 := by omega
  have HN := Lib.hid hx.1
  have HX := Lib.hid hx
  have HM := Lib.hid hmk
  have HL0 := Lib.hid hl0
  have HB0 := Lib.hid hB0
  have Hb0 := Lib.hid hb0
  clear hx hmk hl0 hB0 hb0
  have hmk := HM.out w
  go_enter Try.func65, Try.ntmps65
  go_wp2_with fail
  clear hmk
  go_loopw [13] (fun i wr => ∃ (k : Nat) (cs : List Value), k ≤ n ∧ i = .int .i64 k ∧ Hid (Blk wr w.heap.size cs 9) ∧ Hid (cs.length = n) ∧ Hid (∀ (i : Nat) (x : ByteArray), i < k → xs[i]? = some x → cs[i]? = some (.string x)) ∧ Hid (Below w.heap.size w wr)) (fun i _ => n - (intOf i).toNat)
  case atStart => exact ⟨0, cs0, Nat.zero_le _, rfl, Lib.hid (by have := HB0.out; rw [Nat.mul_one] at this; exact this), Lib.hid (by rw [HL0.out]; simp), Lib.hid (fun i x h => by omega), Lib.hid (by have := Hb0.out; rw [Nat.mul_one] at this; exact this)⟩
  case round =>
    obtain ⟨k, cs, hk, rfl, HB, HL, HC, HW⟩ := hrel
    by_cases hlt : k < n
    · obtain ⟨x, hxk⟩ : ∃ x, xs[k]? = some x := ⟨_, List.getElem?_eq_getElem (by rw [← HN.out]; exact hlt)⟩
      obtain ⟨b, off, rfl, hb, hcx, hsz⟩ := HX.out.at k x hxk
      rw [Nat.mul_one] at hcx
      have cx := (HW.out.cell (p := ⟨b, off + k, none⟩) (hok b hb)).trans hcx
      have fC := fun w => cloneS_any x w hsz
      have hkI : (0 : Int) ≤ (k : Int) := by omega
      have hkI2 : (k : Int) < (n : Int) := by omega
      obtain ⟨o, ho⟩ : ∃ o, cs[k]? = some o := ⟨_, List.getElem?_eq_getElem (by rw [HL.out]; exact hlt)⟩
      have HO := Lib.hid ho
      have HXK := Lib.hid hxk
      clear hcx hxk ho
      go_wp2_with (go_at_call 62; (with_reducible refine (fC _).mono ?_); rintro e w2 ⟨rfl, hb2⟩; have B2 := HB.out.later hb2 HB.out.lt; have d0 := B2.cell k _ HO.out; have g0 := B2.frozen k)
      have B3 := B2.setCell k (.string x)
      have hb3 := (HW.out.trans (hb2.mono HW.out.size)).setCell (p := ⟨w.heap.size, k, none⟩) (Nat.le_refl _) (.string x)
      have HB3 := Lib.hid B3
      have Hb3 := Lib.hid hb3
      clear B3 hb3 d0 g0 B2
      go_wp2
      go_roundw
      case rel =>
        refine ⟨k + 1, _, by omega, by go_num, HB3, Lib.hid (by rw [List.length_set]; exact HL.out), Lib.hid (fun i y hi hy => ?_), Hb3⟩
        by_cases he : i = k
        · subst he
          rw [HXK.out] at hy
          cases hy
          rw [List.getElem?_set_self (by rw [HL.out]; exact hlt)]
        · rw [List.getElem?_set_ne (by omega)]
          exact HC.out i y (by omega) hy
      case measure => simp [intOf]; omega
    · have hkI : ¬ (k : Int) < (n : Int) := by omega
      obtain rfl : k = n := by omega
      go_wp2
      go_ret
      refine ⟨w.heap.size, rfl, ⟨HN.out, Nat.le_refl _, ⟨by unfold maxLen; omega, by omega, fun h => by cases h⟩, .inr ⟨w.heap.size, 0, rfl, ⟨Nat.le_refl _, HB.out.lt⟩, fun i x hxi => ?_⟩⟩, HW.out⟩
      have hi : i < k := by rw [HN.out]; exact (List.getElem?_eq_some_iff.1 hxi).1
      obtain ⟨b, off, _, _, _, hsz⟩ := HX.out.at i x hxi
      exact ⟨by rw [Nat.mul_one, Nat.zero_add]; exact HB.out.cell i _ (HC.out i x hi hxi), hsz⟩

set_option maxRecDepth 100000 in
set_option maxHeartbeats 2000000 in
theorem copiedA_any (xs : List At3) (a : Option Addr) (n c : Nat) (ok : Nat → Prop) (w : World) (hx : RdA ok w a n c xs) (hok : ∀ b, ok b → b < w.heap.size) (hn : n ≤ 1000000) :
    Calls Try.prog 63 #[.slice a n c, .func (.func 64) #[] #[]] w (CopyA xs n w) := by
  have hmk := make_any 41 56 _ 3 48 Try.underlying41 TryinfoAttr n (by omega) (by omega)
  obtain ⟨cs0, hl0, hB0⟩ := made_blk w (Value.agg #[.string ⟨#[]⟩, .string ⟨#[]⟩, .string ⟨#[]⟩]).cells (n * 3) 56
  have hb0 := (Below.refl w.heap.size w).alloc (Nat.le_refl _) (.cells (madeCells (Value.agg #[.string ⟨#[]⟩, .string ⟨#[]⟩, .string ⟨#[]⟩]).cells (n * 3)) 56)
  have hm : n ≤ 9223372036854775807 := by omega
  have HN := Lib.hid hx.1
  have HX := Lib.hid hx
  have HM := Lib.hid hmk
  have HL0 := Lib.hid hl0
  have HB0 := Lib.hid hB0
  have Hb0 := Lib.hid hb0
  clear hx hmk hl0 hB0 hb0
  have hmk := HM.out w
  go_enter Try.func63, Try.ntmps63
  go_wp2_with fail
  clear hmk
  go_loopw [13] (fun i wr => ∃ (k : Nat) (cs : List Value), k ≤ n ∧ i = .int .i64 k ∧ Hid (Blk wr w.heap.size cs 56) ∧ Hid (cs.length = n * 3) ∧ Hid (∀ (i : Nat) (x : At3), i < k → xs[i]? = some x → cs[i * 3]? = some (.string x.space) ∧ cs[i * 3 + 1]? = some (.string x.name) ∧ cs[i * 3 + 2]? = some (.string x.val)) ∧ Hid (Below w.heap.size w wr)) (fun i _ => n - (intOf i).toNat)
  case atStart => exact ⟨0, cs0, Nat.zero_le _, rfl, Lib.hid (by have := HB0.out; exact this), Lib.hid (by rw [HL0.out]), Lib.hid (fun i x h => by omega), Lib.hid (by have := Hb0.out; exact this)⟩
  case round =>
    obtain ⟨k, cs, hk, rfl, HB, HL, HC, HW⟩ := hrel
    by_cases hlt : k < n
    · obtain ⟨x, hxk⟩ : ∃ x, xs[k]? = some x := ⟨_, List.getElem?_eq_getElem (by rw [← HN.out]; exact hlt)⟩
      obtain ⟨b, off, rfl, hb, hcx0, hcx1, hcx2, hz0, hz1, hz2⟩ := HX.out.at k x hxk
      have cx0 := (HW.out.cell (p := ⟨b, off + k * 3, none⟩) (hok b hb)).trans hcx0
      have cx1 := (HW.out.cell (p := ⟨b, off + k * 3 + 1, none⟩) (hok b hb)).trans hcx1
      have cx2 := (HW.out.cell (p := ⟨b, off + k * 3 + 2, none⟩) (hok b hb)).trans hcx2
      have hbX := HW.out.alloc HW.out.size (.cells [.string x.space, .string x.name, .string x.val].toArray 56)
      have B1 := HB.out.alloc_old (.cells [.string x.space, .string x.name, .string x.val].toArray 56)
      have fC := fun w => copyAttr_any x.space x.name x.val w hz0 hz1 hz2
      have hkI : (0 : Int) ≤ (k : Int) := by omega
      have hkI2 : (k : Int) < (n : Int) := by omega
      obtain ⟨o0, ho0⟩ : ∃ o, cs[k * 3]? = some o := ⟨_, List.getElem?_eq_getElem (by rw [HL.out]; omega)⟩
      obtain ⟨o1, ho1⟩ : ∃ o, cs[k * 3 + 1]? = some o := ⟨_, List.getElem?_eq_getElem (by rw [HL.out]; omega)⟩
      obtain ⟨o2, ho2⟩ : ∃ o, cs[k * 3 + 2]? = some o := ⟨_, List.getElem?_eq_getElem (by rw [HL.out]; omega)⟩
      have HO0 := Lib.hid ho0
      have HO1 := Lib.hid ho1
      have HO2 := Lib.hid ho2
      have HXK := Lib.hid hxk
      have HBX := Lib.hid hbX
      have HB1 := Lib.hid B1
      clear hcx0 hcx1 hcx2 hxk ho0 ho1 ho2 hbX B1
      go_wp2_with (go_at_call 64; (with_reducible refine (fC _).mono ?_); rintro e w2 ⟨rfl, hb2⟩; have B2 := HB1.out.later hb2 HB1.out.lt; have d0 := B2.cell (k * 3) _ HO0.out; have d1 := B2.cell (k * 3 + 1) _ HO1.out; have d2 := B2.cell (k * 3 + 2) _ HO2.out; have g0 := B2.frozen (k * 3); have g1 := B2.frozen (k * 3 + 1); have g2 := B2.frozen (k * 3 + 2))
      have B3 := ((B2.setCell (k * 3) (.string x.space)).setCell (k * 3 + 1) (.string x.name)).setCell (k * 3 + 2) (.string x.val)
      have hb3 := (((HBX.out.trans (hb2.mono HBX.out.size)).setCell (p := ⟨w.heap.size, k * 3, none⟩) (Nat.le_refl _) (.string x.space)).setCell (p := ⟨w.heap.size, k * 3 + 1, none⟩) (Nat.le_refl _) (.string x.name)).setCell (p := ⟨w.heap.size, k * 3 + 2, none⟩) (Nat.le_refl _) (.string x.val)
      have HB3 := Lib.hid B3
      have Hb3 := Lib.hid hb3
      clear B3 hb3 d0 d1 d2 g0 g1 g2 B2
      go_wp2
      go_roundw
      case rel =>
        refine ⟨k + 1, _, by omega, by go_num, HB3, Lib.hid (by simp only [List.length_set]; exact HL.out), Lib.hid (fun i y hi hy => ?_), Hb3⟩
        have hl := HL.out
        by_cases he : i = k
        · subst he
          rw [HXK.out] at hy
          cases hy
          refine ⟨?_, ?_, ?_⟩
          · rw [List.getElem?_set_ne (by omega), List.getElem?_set_ne (by omega), List.getElem?_set_self (by omega)]
          · rw [List.getElem?_set_ne (by omega), List.getElem?_set_self (by rw [List.length_set]; omega)]
          · rw [List.getElem?_set_self (by simp only [List.length_set]; omega)]
        · have := HC.out i y (by omega) hy
          refine ⟨?_, ?_, ?_⟩
          · rw [List.getElem?_set_ne (by omega), List.getElem?_set_ne (by omega), List.getElem?_set_ne (by omega)]; exact this.1
          · rw [List.getElem?_set_ne (by omega), List.getElem?_set_ne (by omega), List.getElem?_set_ne (by omega)]; exact this.2.1
          · rw [List.getElem?_set_ne (by omega), List.getElem?_set_ne (by omega), List.getElem?_set_ne (by omega)]; exact this.2.2
      case measure => simp [intOf]; omega
    · have hkI : ¬ (k : Int) < (n : Int) := by omega
      obtain rfl : k = n := by omega
      go_wp2
      go_ret
      refine ⟨w.heap.size, rfl, ⟨HN.out, Nat.le_refl _, ⟨by unfold maxLen; omega, by omega, fun h => by cases h⟩, .inr ⟨w.heap.size, 0, rfl, ⟨Nat.le_refl _, HB.out.lt⟩, fun i x hxi => ?_⟩⟩, HW.out⟩
      have hi : i < k := by rw [HN.out]; exact (List.getElem?_eq_some_iff.1 hxi).1
      obtain ⟨b, off, _, _, _, _, _, hsz⟩ := HX.out.at i x hxi
      have hc := HC.out i x hi hxi
      exact ⟨by rw [Nat.zero_add]; exact HB.out.cell _ _ hc.1, by rw [Nat.zero_add]; exact HB.out.cell _ _ hc.2.1, by rw [Nat.zero_add]; exact HB.out.cell _ _ hc.2.2, hsz⟩
end Go.Proofs.Ytfgnepbpfglepaa
