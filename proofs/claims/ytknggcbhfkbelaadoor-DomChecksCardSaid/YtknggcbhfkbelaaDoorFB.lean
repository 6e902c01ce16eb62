/- Several texts of mine in one. -/
import Derived.Test.YtknggcbhfkbelaaDoorDo0
import Derived.Test.YtknggcbhfkbelaaDoorDm8
import Derived.Test.YtknggcbhfkbelaaDoorShelf
import Derived.Deep.RegionWith
import Derived.Deep.RegionHeld3
namespace Go.Proofs.YtknggcbhfkbelaaDoor
section
open Go.RowKit
set_option linter.unusedVariables false
set_option linter.unusedSimpArgs false

set_option maxRecDepth 100000 in
set_option maxHeartbeats 1000000 in
theorem cloneS_any (s : ByteArray) (w : World) (hs : s.size ≤ 140737488351232) : Calls Tryd.prog 29 #[.string s] w (Told (.string s) w) := by
  have hC := fun w => Tryd.stringslite_Clone s w (by omega)
  go_enter Tryd.func29, Tryd.ntmps29
  go_wp2_with fail
  refine (hC _).mono ?_
  rintro e w1 ⟨rfl, hb⟩
  go_wp2
  go_ret
  exact ⟨rfl, hb⟩

theorem Blk.cells3 {w : World} {p : Nat} {a b c : Value} {T : TypeId} (h : Blk w p [a, b, c] T) : w.cell? ⟨p, 0, none⟩ = some a ∧ w.cell? ⟨p, 1, none⟩ = some b ∧ w.cell? ⟨p, 2, none⟩ = some c := ⟨h.cell 0 _ rfl, h.cell 1 _ rfl, h.cell 2 _ rfl⟩

set_option maxRecDepth 100000 in
set_option maxHeartbeats 1000000 in
theorem copyAttr_any (s nm v : ByteArray) (w : World) (hs : s.size ≤ 140737488351232) (hn : nm.size ≤ 140737488351232) (hv : v.size ≤ 140737488351232) :
    Calls Tryd.prog 31 #[.agg #[.string s, .string nm, .string v]] w (Told (.agg #[.string s, .string nm, .string v]) w) := by
  have f0 := fun w => cloneS_any s w hs
  have f1 := fun w => cloneS_any nm w hn
  have f2 := fun w => cloneS_any v w hv
  obtain ⟨w0, hw0⟩ : ∃ w0, (w.alloc (.cells #[.string s, .string nm, .string v] 43)).alloc (.cells #[.string ⟨#[]⟩, .string ⟨#[]⟩, .string ⟨#[]⟩] 43) = w0 := ⟨_, rfl⟩
  have hsz : w0.heap.size = w.heap.size + 1 + 1 := by rw [← hw0]; simp
  have B1 : Blk w0 w.heap.size [.string s, .string nm, .string v] 43 := by rw [← hw0]; exact (Blk.alloc [.string s, .string nm, .string v] _).alloc_old _
  have B2 : Blk w0 (w.heap.size + 1) [.string ⟨#[]⟩, .string ⟨#[]⟩, .string ⟨#[]⟩] 43 := by
    rw [← hw0]
    have := Blk.alloc (w := w.alloc (.cells #[.string s, .string nm, .string v] 43)) [.string ⟨#[]⟩, .string ⟨#[]⟩, .string ⟨#[]⟩] 43
    rwa [show (w.alloc (.cells #[.string s, .string nm, .string v] 43)).heap.size = w.heap.size + 1 from by simp] at this
  have hb0 : Below w.heap.size w w0 := by
    rw [← hw0]
    have := (Below.refl w.heap.size w).alloc (Nat.le_refl _) (.cells #[.string s, .string nm, .string v] 43)
    exact this.alloc this.size _
  have HW0 := Lib.hid hw0
  have HSZ := Lib.hid hsz
  have HB0 := Lib.hid hb0
  have HB2 := Lib.hid B2
  have HB1 := Lib.hid B1
  clear hsz hb0 B2
  go_enter Tryd.func31, Tryd.ntmps31
  go_wp2
  have D0 := (HB1.out.drewN 1).cells3
  obtain ⟨d0, d1, d2⟩ := D0
  go_region_held3 (fun w' => w'.cell? ⟨w.heap.size, 0, none⟩ = some (.string s) ∧ w'.cell? ⟨w.heap.size, 1, none⟩ = some (.string nm) ∧ w'.cell? ⟨w.heap.size, 2, none⟩ = some (.string v)) (first | exact ⟨d0, d1, d2⟩ | exact a3 | exact a4 | exact a5 | exact a6) (first
    | ((go_at_call 29); (with_reducible refine (f0 _).mono ?_); rintro e w3 ⟨rfl, hb3⟩; have C3 := Blk.later (B1.drewN 1) hb3 B1.lt; have a3 := C3.cells3; have X3 := Blk.later (HB2.out.drewN 1) hb3 HB2.out.lt)
    | ((go_at_call 29); (with_reducible refine (f1 _).mono ?_); rintro e w4 ⟨rfl, hb4⟩; have C4 := C3.later hb4 C3.lt; have a4 := C4.cells3; have X4 := X3.later hb4 X3.lt)
    | ((go_at_call 29); (with_reducible refine (f2 _).mono ?_); rintro e w5 ⟨rfl, hb5⟩; have C5 := C4.later hb5 C4.lt; have a5 := C5.cells3; have X5 := X4.later hb5 X4.lt; have y0 := X5.cell 0 _ rfl; have y1 := X5.cell 1 _ rfl; have y2 := X5.cell 2 _ rfl; have g0 := X5.frozen 0; have g1 := X5.frozen 1; have g2 := X5.frozen 2; have C6 := ((C5.kept (grown_setCell w5 (w.heap.size + 1) 0 (.string s)) (by simp)).kept (grown_setCell _ (w.heap.size + 1) 1 (.string nm)) (by simp)).kept (grown_setCell _ (w.heap.size + 1) 2 (.string v)) (by simp); have a6 := C6.cells3; have X6 := ((X5.setCell 0 (.string s)).setCell 1 (.string nm)).setCell 2 (.string v)))
  obtain ⟨r0, r1, r2⟩ := X6.cells3
  have hbe : Below w.heap.size w w5 := ((HB0.out.drew.trans (hb3.mono HB0.out.drew.size)).trans (hb4.mono (HB0.out.drew.trans (hb3.mono HB0.out.drew.size)).size)).trans (hb5.mono ((HB0.out.drew.trans (hb3.mono HB0.out.drew.size)).trans (hb4.mono (HB0.out.drew.trans (hb3.mono HB0.out.drew.size)).size)).size)
  have hbz := ((hbe.setCell (p := ⟨w.heap.size + 1, 0, none⟩) (Nat.le_succ _) (.string s)).setCell (p := ⟨w.heap.size + 1, 1, none⟩) (Nat.le_succ _) (.string nm)).setCell (p := ⟨w.heap.size + 1, 2, none⟩) (Nat.le_succ _) (.string v)
  go_wp2
  refine bodyPost_ret (v := .agg #[.string s, .string nm, .string v]) (by simp [results, Tryd.results31, go_sem, r0, r1, r2]) rfl ⟨rfl, hbz⟩
end

section
open Go.RowKit
set_option linter.unusedVariables false
set_option linter.unusedSimpArgs false

theorem make_any (t e : TypeId) (z : Value) (sz bytes : Nat) (ht : Tryd.prog.underlying t = some (.slice e)) (hinfo : (Tryd.prog.info? e).map (fun i => (i.zero, i.size, i.bytes)) = some (some z, sz, bytes))
    (n : Nat) (hbytes : bytes * n ≤ 281474976710656) (h63 : n ≤ 9223372036854775807) (w : World) :
    (Instr.makeSlice t (.int .i64 (n : Int)) (.int .i64 (n : Int))).run Tryd.prog w = .ok (.slice (some ⟨w.heap.size, 0, none⟩) n n) (w.alloc (.cells (madeCells z.cells (n * sz)) e)) := by
  obtain ⟨i, hi, hzz⟩ := Option.map_eq_some_iff.1 hinfo
  simp only [Prod.mk.injEq] at hzz
  obtain ⟨hz, hs, hb⟩ := hzz
  have hb' : (i.bytes : Int) * (n : Int) ≤ 281474976710656 := by
    have h : ((i.bytes * n : Nat) : Int) ≤ 281474976710656 := by rw [hb]; omega
    rwa [Int.natCast_mul] at h
  have hr := run_make (P := Tryd.prog) w t e i z ht hi hz .i64 .i64 n n (by omega) (Int.le_refl _) hb' (by omega)
  simp only [Int.toNat_natCast] at hr
  rw [hs] at hr
  exact hr
theorem made_blk (w : World) (zc : Array Value) (m : Nat) (T : TypeId) : ∃ cs : List Value, cs.length = m ∧ Blk (w.alloc (.cells (madeCells zc m) T)) w.heap.size cs T :=
  ⟨(madeCells zc m).toList, by rw [Array.length_toList, size_madeCells], by
    have := Blk.alloc (w := w) (madeCells zc m).toList T
    simpa using this⟩

/-- A list copied: it reads the same, in new memory. -/
def CopyS (xs : List ByteArray) (n : Nat) (w : World) (e : Ending) (w' : World) : Prop := ∃ g, e = .returned (.slice (some ⟨g, 0, none⟩) n n) ∧ RdS (fun b => w.heap.size ≤ b ∧ b < w'.heap.size) w' (some ⟨g, 0, none⟩) n n xs ∧ Below w.heap.size w w'
def CopyA (xs : List At3) (n : Nat) (w : World) (e : Ending) (w' : World) : Prop := ∃ g, e = .returned (.slice (some ⟨g, 0, none⟩) n n) ∧ RdA (fun b => w.heap.size ≤ b ∧ b < w'.heap.size) w' (some ⟨g, 0, none⟩) n n xs ∧ Below w.heap.size w w'

set_option maxRecDepth 100000 in
set_option maxHeartbeats 2000000 in
theorem copiedS_any (xs : List ByteArray) (a : Option Addr) (n c : Nat) (ok : Nat → Prop) (w : World) (hx : RdS ok w a n c xs) (hok : ∀ b, ok b → b < w.heap.size) (hn : n ≤ 1000000) :
    Calls Tryd.prog 32 #[.slice a n c, .func (.func 29) #[] #[]] w (CopyS xs n w) := by
  have hmk := make_any 36 9 _ 1 16 Tryd.underlying36 TrydinfoStr n (by omega) (by omega)
  obtain ⟨cs0, hl0, hB0⟩ := made_blk w (Value.string ⟨#[]⟩).cells (n * 1) 9
  have hb0 := (Below.refl w.heap.size w).alloc (Nat.le_refl _) (.cells (madeCells (Value.string ⟨#[]⟩).cells (n * 1)) 9)
  have hm : n ≤ 9223372036854775807 := by omega
  have HN := Lib.hid hx.1
  have HX := Lib.hid hx
  have HM := Lib.hid hmk
  have HL0 := Lib.hid hl0
  have HB0 := Lib.hid hB0
  have Hb0 := Lib.hid hb0
  clear hx hmk hl0 hB0 hb0
  have hmk := HM.out w
  go_enter Tryd.func32, Tryd.ntmps32
  go_wp2_with fail
  clear hmk
  go_loopw [13] (fun i wr => ∃ (k : Nat) (cs : List Value), k ≤ n ∧ i = .int .i64 k ∧ Hid (Blk wr w.heap.size cs 9) ∧ Hid (cs.length = n) ∧ Hid (∀ (i : Nat) (x : ByteArray), i < k → xs[i]? = some x → cs[i]? = some (.string x)) ∧ Hid (Below w.heap.size w wr)) (fun i _ => n - (intOf i).toNat)
  case atStart => exact ⟨0, cs0, Nat.zero_le _, rfl, Lib.hid (by have := HB0.out; rw [Nat.mul_one] at this; exact this), Lib.hid (by rw [HL0.out]; simp), Lib.hid (fun i x h => by omega), Lib.hid (by have := Hb0.out; rw [Nat.mul_one] at this; exact this)⟩
  case round =>
    obtain ⟨k, cs, hk, rfl, HB, HL, HC, HW⟩ := hrel
    by_cases hlt : k < n
    · obtain ⟨x, hxk⟩ : ∃ x, xs[k]? = some x := ⟨_, List.getElem?_eq_getElem (by rw [← HN.out]; exact hlt)⟩
      obtain ⟨b, off, rfl, hb, hcx, hsz⟩ := HX.out.at k x hxk
      rw [Nat.mul_one] at hcx
      have cx := (HW.out.cell (p := ⟨b, off + k, none⟩) (hok b hb)).trans hcx
      have fC := fun w => cloneS_any x w hsz
      have hkI : (0 : Int) ≤ (k : Int) := by omega
      have hkI2 : (k : Int) < (n : Int) := by omega
      obtain ⟨o, ho⟩ : ∃ o, cs[k]? = some o := ⟨_, List.getElem?_eq_getElem (by rw [HL.out]; exact hlt)⟩
      have HO := Lib.hid ho
      have HXK := Lib.hid hxk
      clear hcx hxk ho
      go_wp2_with (go_at_call 29; (with_reducible refine (fC _).mono ?_); rintro e w2 ⟨rfl, hb2⟩; have B2 := HB.out.later hb2 HB.out.lt; have d0 := B2.cell k _ HO.out; have g0 := B2.frozen k)
      have B3 := B2.setCell k (.string x)
      have hb3 := (HW.out.trans (hb2.mono HW.out.size)).setCell (p := ⟨w.heap.size, k, none⟩) (Nat.le_refl _) (.string x)
      have HB3 := Lib.hid B3
      have Hb3 := Lib.hid hb3
      clear B3 hb3 d0 g0 B2
      go_wp2
      go_roundw
      case rel =>
        refine ⟨k + 1, _, by omega, by go_num, HB3, Lib.hid (by rw [List.length_set]; exact HL.out), Lib.hid (fun i y hi hy => ?_), Hb3⟩
        by_cases he : i = k
        · subst he
          rw [HXK.out] at hy
          cases hy
          rw [List.getElem?_set_self (by rw [HL.out]; exact hlt)]
        · rw [List.getElem?_set_ne (by omega)]
          exact HC.out i y (by omega) hy
      case measure => simp [intOf]; omega
    · have hkI : ¬ (k : Int) < (n : Int) := by omega
      obtain rfl : k = n := by omega
      go_wp2
      go_ret
      refine ⟨w.heap.size, rfl, ⟨HN.out, Nat.le_refl _, ⟨by unfold maxLen; omega, by omega, fun h => by cases h⟩, .inr ⟨w.heap.size, 0, rfl, ⟨Nat.le_refl _, HB.out.lt⟩, fun i x hxi => ?_⟩⟩, HW.out⟩
      have hi : i < k := by rw [HN.out]; exact (List.getElem?_eq_some_iff.1 hxi).1
      obtain ⟨b, off, _, _, _, hsz⟩ := HX.out.at i x hxi
      exact ⟨by rw [Nat.mul_one, Nat.zero_add]; exact HB.out.cell i _ (HC.out i x hi hxi), hsz⟩

set_option maxRecDepth 100000 in
set_option maxHeartbeats 2000000 in
theorem copiedA_any (xs : List At3) (a : Option Addr) (n c : Nat) (ok : Nat → Prop) (w : World) (hx : RdA ok w a n c xs) (hok : ∀ b, ok b → b < w.heap.size) (hn : n ≤ 1000000) :
    Calls Tryd.prog 30 #[.slice a n c, .func (.func 31) #[] #[]] w (CopyA xs n w) := by
  have hmk := make_any 35 43 _ 3 48 Tryd.underlying35 TrydinfoAttr n (by omega) (by omega)
  obtain ⟨cs0, hl0, hB0⟩ := made_blk w (Value.agg #[.string ⟨#[]⟩, .string ⟨#[]⟩, .string ⟨#[]⟩]).cells (n * 3) 43
  have hb0 := (Below.refl w.heap.size w).alloc (Nat.le_refl _) (.cells (madeCells (Value.agg #[.string ⟨#[]⟩, .string ⟨#[]⟩, .string ⟨#[]⟩]).cells (n * 3)) 43)
  have hm : n ≤ 9223372036854775807 := by omega
  have HN := Lib.hid hx.1
  have HX := Lib.hid hx
  have HM := Lib.hid hmk
  have HL0 := Lib.hid hl0
  have HB0 := Lib.hid hB0
  have Hb0 := Lib.hid hb0
  clear hx hmk hl0 hB0 hb0
  have hmk := HM.out w
  go_enter Tryd.func30, Tryd.ntmps30
  go_wp2_with fail
  clear hmk
  go_loopw [13] (fun i wr => ∃ (k : Nat) (cs : List Value), k ≤ n ∧ i = .int .i64 k ∧ Hid (Blk wr w.heap.size cs 43) ∧ Hid (cs.length = n * 3) ∧ Hid (∀ (i : Nat) (x : At3), i < k → xs[i]? = some x → cs[i * 3]? = some (.string x.space) ∧ cs[i * 3 + 1]? = some (.string x.name) ∧ cs[i * 3 + 2]? = some (.string x.val)) ∧ Hid (Below w.heap.size w wr)) (fun i _ => n - (intOf i).toNat)
  case atStart => exact ⟨0, cs0, Nat.zero_le _, rfl, Lib.hid (by have := HB0.out; exact this), Lib.hid (by rw [HL0.out]), Lib.hid (fun i x h => by omega), Lib.hid (by have := Hb0.out; exact this)⟩
  case round =>
    obtain ⟨k, cs, hk, rfl, HB, HL, HC, HW⟩ := hrel
    by_cases hlt : k < n
    · obtain ⟨x, hxk⟩ : ∃ x, xs[k]? = some x := ⟨_, List.getElem?_eq_getElem (by rw [← HN.out]; exact hlt)⟩
      obtain ⟨b, off, rfl, hb, hcx0, hcx1, hcx2, hz0, hz1, hz2⟩ := HX.out.at k x hxk
      have cx0 := (HW.out.cell (p := ⟨b, off + k * 3, none⟩) (hok b hb)).trans hcx0
      have cx1 := (HW.out.cell (p := ⟨b, off + k * 3 + 1, none⟩) (hok b hb)).trans hcx1
      have cx2 := (HW.out.cell (p := ⟨b, off + k * 3 + 2, none⟩) (hok b hb)).trans hcx2
      have hbX := HW.out.alloc HW.out.size (.cells [.string x.space, .string x.name, .string x.val].toArray 43)
      have B1 := HB.out.alloc_old (.cells [.string x.space, .string x.name, .string x.val].toArray 43)
      have fC := fun w => copyAttr_any x.space x.name x.val w hz0 hz1 hz2
      have hkI : (0 : Int) ≤ (k : Int) := by omega
      have hkI2 : (k : Int) < (n : Int) := by omega
      obtain ⟨o0, ho0⟩ : ∃ o, cs[k * 3]? = some o := ⟨_, List.getElem?_eq_getElem (by rw [HL.out]; omega)⟩
      obtain ⟨o1, ho1⟩ : ∃ o, cs[k * 3 + 1]? = some o := ⟨_, List.getElem?_eq_getElem (by rw [HL.out]; omega)⟩
      obtain ⟨o2, ho2⟩ : ∃ o, cs[k * 3 + 2]? = some o := ⟨_, List.getElem?_eq_getElem (by rw [HL.out]; omega)⟩
      have HO0 := Lib.hid ho0
      have HO1 := Lib.hid ho1
      have HO2 := Lib.hid ho2
      have HXK := Lib.hid hxk
      have HBX := Lib.hid hbX
      have HB1 := Lib.hid B1
      clear hcx0 hcx1 hcx2 hxk ho0 ho1 ho2 hbX B1
      go_wp2_with (go_at_call 31; (with_reducible refine (fC _).mono ?_); rintro e w2 ⟨rfl, hb2⟩; have B2 := HB1.out.later hb2 HB1.out.lt; have d0 := B2.cell (k * 3) _ HO0.out; have d1 := B2.cell (k * 3 + 1) _ HO1.out; have d2 := B2.cell (k * 3 + 2) _ HO2.out; have g0 := B2.frozen (k * 3); have g1 := B2.frozen (k * 3 + 1); have g2 := B2.frozen (k * 3 + 2))
      have B3 := ((B2.setCell (k * 3) (.string x.space)).setCell (k * 3 + 1) (.string x.name)).setCell (k * 3 + 2) (.string x.val)
      have hb3 := (((HBX.out.trans (hb2.mono HBX.out.size)).setCell (p := ⟨w.heap.size, k * 3, none⟩) (Nat.le_refl _) (.string x.space)).setCell (p := ⟨w.heap.size, k * 3 + 1, none⟩) (Nat.le_refl _) (.string x.name)).setCell (p := ⟨w.heap.size, k * 3 + 2, none⟩) (Nat.le_refl _) (.string x.val)
      have HB3 := Lib.hid B3
      have Hb3 := Lib.hid hb3
      clear B3 hb3 d0 d1 d2 g0 g1 g2 B2
      go_wp2
      go_roundw
      case rel =>
        refine ⟨k + 1, _, by omega, by go_num, HB3, Lib.hid (by simp only [List.length_set]; exact HL.out), Lib.hid (fun i y hi hy => ?_), Hb3⟩
        have hl := HL.out
        by_cases he : i = k
        · subst he
          rw [HXK.out] at hy
          cases hy
          refine ⟨?_, ?_, ?_⟩
          · rw [List.getElem?_set_ne (by omega), List.getElem?_set_ne (by omega), List.getElem?_set_self (by omega)]
          · rw [List.getElem?_set_ne (by omega), List.getElem?_set_self (by rw [List.length_set]; omega)]
          · rw [List.getElem?_set_self (by simp only [List.length_set]; omega)]
        · have := HC.out i y (by omega) hy
          refine ⟨?_, ?_, ?_⟩
          · rw [List.getElem?_set_ne (by omega), List.getElem?_set_ne (by omega), List.getElem?_set_ne (by omega)]; exact this.1
          · rw [List.getElem?_set_ne (by omega), List.getElem?_set_ne (by omega), List.getElem?_set_ne (by omega)]; exact this.2.1
          · rw [List.getElem?_set_ne (by omega), List.getElem?_set_ne (by omega), List.getElem?_set_ne (by omega)]; exact this.2.2
      case measure => simp [intOf]; omega
    · have hkI : ¬ (k : Int) < (n : Int) := by omega
      obtain rfl : k = n := by omega
      go_wp2
      go_ret
      refine ⟨w.heap.size, rfl, ⟨HN.out, Nat.le_refl _, ⟨by unfold maxLen; omega, by omega, fun h => by cases h⟩, .inr ⟨w.heap.size, 0, rfl, ⟨Nat.le_refl _, HB.out.lt⟩, fun i x hxi => ?_⟩⟩, HW.out⟩
      have hi : i < k := by rw [HN.out]; exact (List.getElem?_eq_some_iff.1 hxi).1
      obtain ⟨b, off, _, _, _, _, _, hsz⟩ := HX.out.at i x hxi
      have hc := HC.out i x hi hxi
      exact ⟨by rw [Nat.zero_add]; exact HB.out.cell _ _ hc.1, by rw [Nat.zero_add]; exact HB.out.cell _ _ hc.2.1, by rw [Nat.zero_add]; exact HB.out.cell _ _ hc.2.2, hsz⟩
end

section
open Go.RowKit
set_option linter.unusedVariables false
set_option linter.unusedSimpArgs false

/-- A node's cells. -/
def ndCells (p k : Int) (s nm : ByteArray) (v4 v5 : Value) (t : ByteArray) : List Value := [.int .i64 p, .int .i64 k, .string s, .string nm, v4, v5, .string t]
theorem Blk.cells236 {w : World} {g : Nat} {p k : Int} {s nm t : ByteArray} {v4 v5 : Value} {T : TypeId} (h : Blk w g (ndCells p k s nm v4 v5 t) T) : w.cell? ⟨g, 2, none⟩ = some (.string s) ∧ w.cell? ⟨g, 3, none⟩ = some (.string nm) ∧ w.cell? ⟨g, 6, none⟩ = some (.string t) := ⟨h.cell 2 _ rfl, h.cell 3 _ rfl, h.cell 6 _ rfl⟩
theorem Blk.set2 {w : World} {g : Nat} {p k : Int} {s nm t : ByteArray} {v4 v5 : Value} {T : TypeId} (h : Blk w g (ndCells p k s nm v4 v5 t) T) : Blk (w.setCell ⟨g, 2, none⟩ (.string s)) g (ndCells p k s nm v4 v5 t) T := h.setCell 2 (.string s)
theorem Blk.set3 {w : World} {g : Nat} {p k : Int} {s nm t : ByteArray} {v4 v5 : Value} {T : TypeId} (h : Blk w g (ndCells p k s nm v4 v5 t) T) : Blk (w.setCell ⟨g, 3, none⟩ (.string nm)) g (ndCells p k s nm v4 v5 t) T := h.setCell 3 (.string nm)
theorem Blk.set6 {w : World} {g : Nat} {p k : Int} {s nm t : ByteArray} {v4 v5 : Value} {T : TypeId} (h : Blk w g (ndCells p k s nm v4 v5 t) T) : Blk (w.setCell ⟨g, 6, none⟩ (.string t)) g (ndCells p k s nm v4 v5 t) T := h.setCell 6 (.string t)
theorem Blk.set45 {w : World} {g : Nat} {p k : Int} {s nm t : ByteArray} {v4 v5 : Value} {T : TypeId} (h : Blk w g (ndCells p k s nm v4 v5 t) T) (u4 u5 : Value) :
    Blk ((w.setCell ⟨g, 4, none⟩ u4).setCell ⟨g, 5, none⟩ u5) g (ndCells p k s nm u4 u5 t) T := (h.setCell 4 u4).setCell 5 u5

theorem heap_set {w : World} {g i b : Nat} {v : Value} (h : b ≠ g) : (w.setCell ⟨g, i, none⟩ v).heap[b]? = w.heap[b]? := Below.heap_setCell w ⟨g, i, none⟩ v b h
theorem size_set {w : World} {g i : Nat} {v : Value} : (w.setCell ⟨g, i, none⟩ v).heap.size = w.heap.size := by simp
/-- A node's cells, written one by one. -/
def setNd (w : World) (g o : Nat) (p k : Int) (s nm : ByteArray) (v4 v5 : Value) (t : ByteArray) : World :=
  ((((((w.setCell ⟨g, o, none⟩ (.int .i64 p)).setCell ⟨g, o + 1, none⟩ (.int .i64 k)).setCell ⟨g, o + 2, none⟩ (.string s)).setCell ⟨g, o + 3, none⟩ (.string nm)).setCell ⟨g, o + 4, none⟩ v4).setCell ⟨g, o + 5, none⟩ v5).setCell ⟨g, o + 6, none⟩ (.string t)
theorem setNd_old {w : World} {g o b : Nat} {p k : Int} {s nm t : ByteArray} {v4 v5 : Value} (h : b ≠ g) : (setNd w g o p k s nm v4 v5 t).heap[b]? = w.heap[b]? := by
  unfold setNd; simp only [heap_set h]
theorem setNd_size {w : World} {g o : Nat} {p k : Int} {s nm t : ByteArray} {v4 v5 : Value} : (setNd w g o p k s nm v4 v5 t).heap.size = w.heap.size := by
  unfold setNd; simp only [size_set]
theorem setNd_below {w w0 : World} {B g o : Nat} {p k : Int} {s nm t : ByteArray} {v4 v5 : Value} (h : Below B w0 w) (hg : B ≤ g) : Below B w0 (setNd w g o p k s nm v4 v5 t) :=
  ((((((h.setCell (p := ⟨g, o, none⟩) hg _).setCell (p := ⟨g, o + 1, none⟩) hg _).setCell (p := ⟨g, o + 2, none⟩) hg _).setCell (p := ⟨g, o + 3, none⟩) hg _).setCell (p := ⟨g, o + 4, none⟩) hg _).setCell (p := ⟨g, o + 5, none⟩) hg _).setCell (p := ⟨g, o + 6, none⟩) hg _
def setsNd (cs : List Value) (o : Nat) (p k : Int) (s nm : ByteArray) (v4 v5 : Value) (t : ByteArray) : List Value :=
  ((((((cs.set o (.int .i64 p)).set (o + 1) (.int .i64 k)).set (o + 2) (.string s)).set (o + 3) (.string nm)).set (o + 4) v4).set (o + 5) v5).set (o + 6) (.string t)
theorem setNd_blk {w : World} {g o : Nat} {p k : Int} {s nm t : ByteArray} {v4 v5 : Value} {cs : List Value} {T : TypeId} (h : Blk w g cs T) : Blk (setNd w g o p k s nm v4 v5 t) g (setsNd cs o p k s nm v4 v5 t) T :=
  ((((((h.setCell _ _).setCell _ _).setCell _ _).setCell _ _).setCell _ _).setCell _ _).setCell _ _

/-- The copy of a node: its lists lie in new memory. -/
def CopyN (p k : Int) (s nm t : ByteArray) (ats : List At3) (ss : List ByteArray) (n n' : Nat) (w : World) (e : Ending) (w' : World) : Prop :=
  ∃ g1 g2, e = .returned (.agg #[.int .i64 p, .int .i64 k, .string s, .string nm, .slice (some ⟨g1, 0, none⟩) n n, .slice (some ⟨g2, 0, none⟩) n' n', .string t]) ∧
    RdA (fun b => w.heap.size ≤ b ∧ b < w'.heap.size) w' (some ⟨g1, 0, none⟩) n n ats ∧ RdS (fun b => w.heap.size ≤ b ∧ b < w'.heap.size) w' (some ⟨g2, 0, none⟩) n' n' ss ∧ Below w.heap.size w w'

set_option maxRecDepth 100000 in
set_option maxHeartbeats 4000000 in
theorem copyNode_any (p k : Int) (s nm t : ByteArray) (ats : List At3) (ss : List ByteArray) (a a' : Option Addr) (n n' c c' : Nat) (w : World)
    (hA : RdA (· < w.heap.size) w a n c ats) (hS : RdS (· < w.heap.size) w a' n' c' ss) (hs : s.size ≤ 140737488351232) (hnm : nm.size ≤ 140737488351232) (ht : t.size ≤ 140737488351232) (hn : n ≤ 1000000) (hn' : n' ≤ 1000000) :
    Calls Tryd.prog 16 #[.agg #[.int .i64 p, .int .i64 k, .string s, .string nm, .slice a n c, .slice a' n' c', .string t]] w (CopyN p k s nm t ats ss n n' w) := by
  have f0 := fun w => cloneS_any s w hs
  have f1 := fun w => cloneS_any nm w hnm
  have f2 := fun w => cloneS_any t w ht
  have HNA := Lib.hid hA.1
  have HNS := Lib.hid hS.1
  obtain ⟨w0, hw0⟩ : ∃ w0, (w.alloc (.cells #[.int .i64 p, .int .i64 k, .string s, .string nm, .slice a n c, .slice a' n' c', .string t] 38)).alloc (.cells #[.int .i64 0, .int .i64 0, .string ⟨#[]⟩, .string ⟨#[]⟩, .slice none 0 0, .slice none 0 0, .string ⟨#[]⟩] 38) = w0 := ⟨_, rfl⟩
  have B1 : Blk w0 w.heap.size (ndCells p k s nm (.slice a n c) (.slice a' n' c') t) 38 := by rw [← hw0]; exact (Blk.alloc (ndCells p k s nm (.slice a n c) (.slice a' n' c') t) _).alloc_old _
  have B2 : Blk w0 (w.heap.size + 1) (ndCells 0 0 ⟨#[]⟩ ⟨#[]⟩ (.slice none 0 0) (.slice none 0 0) ⟨#[]⟩) 38 := by
    rw [← hw0]
    have := Blk.alloc (w := w.alloc (.cells #[.int .i64 p, .int .i64 k, .string s, .string nm, .slice a n c, .slice a' n' c', .string t] 38)) (ndCells 0 0 ⟨#[]⟩ ⟨#[]⟩ (.slice none 0 0) (.slice none 0 0) ⟨#[]⟩) 38
    rwa [show (w.alloc (.cells #[.int .i64 p, .int .i64 k, .string s, .string nm, .slice a n c, .slice a' n' c', .string t] 38)).heap.size = w.heap.size + 1 from by simp] at this
  have hb0 : Below w.heap.size w w0 := by
    rw [← hw0]
    have := (Below.refl w.heap.size w).alloc (Nat.le_refl _) (.cells #[.int .i64 p, .int .i64 k, .string s, .string nm, .slice a n c, .slice a' n' c', .string t] 38)
    exact this.alloc this.size _
  have HW0 := Lib.hid hw0
  have HB0 := Lib.hid hb0.drew
  have HB2 := Lib.hid (B2.drewN 1)
  have HB1 := Lib.hid (B1.drewN 1)
  have HA := Lib.hid hA
  have HS := Lib.hid hS
  obtain ⟨d0, d1, d2⟩ := (B1.drewN 1).cells236
  clear hb0 B2 B1 hA hS
  go_enter Tryd.func16, Tryd.ntmps16
  go_wp2
  go_region_held3 (fun w' => w'.cell? ⟨w.heap.size, 2, none⟩ = some (.string s) ∧ w'.cell? ⟨w.heap.size, 3, none⟩ = some (.string nm) ∧ w'.cell? ⟨w.heap.size, 6, none⟩ = some (.string t)) (first | exact ⟨d0, d1, d2⟩ | exact a3 | exact a4 | exact a5 | exact a6 | exact a7 | exact a8) (first
    | ((go_at_call 29); (with_reducible refine (f0 _).mono ?_); rintro e w3 ⟨rfl, hb3⟩; have C3 := Blk.later HB1.out hb3 HB1.out.lt; have a3 := C3.cells236; have X3 := Blk.later HB2.out hb3 HB2.out.lt)
    | ((go_at_call 29); (with_reducible refine (f1 _).mono ?_); rintro e w4 ⟨rfl, hb4⟩; have C4 := C3.later hb4 C3.lt; have a4 := C4.cells236; have X4 := X3.later hb4 X3.lt)
    | ((go_at_call 29); (with_reducible refine (f2 _).mono ?_); rintro e w5 ⟨rfl, hb5⟩; have C5 := C4.later hb5 C4.lt; have a5 := C5.cells236; have X5 := X4.later hb5 X4.lt; have g0 := C5.frozen 2; have g1 := C5.frozen 3; have g2 := C5.frozen 6; have C6 := C5.set2; have a6 := C6.cells236; have C7 := C6.set3; have a7 := C7.cells236; have C8 := C7.set6; have a8 := C8.cells236))
  have X6 := ((X5.kept (grown_setCell w5 w.heap.size 2 (.string s)) (by simp)).kept (grown_setCell _ w.heap.size 3 (.string nm)) (by simp)).kept (grown_setCell _ w.heap.size 6 (.string t)) (by simp)
  have hbe := ((((HB0.out.trans (hb3.mono HB0.out.size)).trans (hb4.mono (HB0.out.trans (hb3.mono HB0.out.size)).size)).trans (hb5.mono ((HB0.out.trans (hb3.mono HB0.out.size)).trans (hb4.mono (HB0.out.trans (hb3.mono HB0.out.size)).size)).size)))
  have hb8 := ((hbe.setCell (p := ⟨w.heap.size, 2, none⟩) (Nat.le_refl _) (.string s)).setCell (p := ⟨w.heap.size, 3, none⟩) (Nat.le_refl _) (.string nm)).setCell (p := ⟨w.heap.size, 6, none⟩) (Nat.le_refl _) (.string t)
  clear C3 C4 C5 C6 C7 a3 a4 a5 a6 a7 a8 g0 g1 g2 X3 X4 X5 hbe hb3 hb4 hb5 d0 d1 d2 f0 f1 f2
  generalize hW8 : ((w5.setCell ⟨w.heap.size, 2, none⟩ (.string s)).setCell ⟨w.heap.size, 3, none⟩ (.string nm)).setCell ⟨w.heap.size, 6, none⟩ (.string t) = W8 at *
  clear hW8
  have C4 : W8.drew.cell? ⟨w.heap.size, 4, none⟩ = some (.slice a n c) := (C8.drewN 1).cell 4 _ rfl
  have C5 : W8.drew.cell? ⟨w.heap.size, 5, none⟩ = some (.slice a' n' c') := (C8.drewN 1).cell 5 _ rfl
  have hbD := hb8.drew
  have fA := copiedA_any ats a n c (· < w.heap.size) W8.drew (HA.out.move (fun b hb => ⟨hb, hbD.block b hb⟩)) (fun b hb => Nat.lt_of_lt_of_le hb hbD.size) hn
  have fS := fun w' (hb : Below w.heap.size w w') => copiedS_any ss a' n' c' (· < w.heap.size) w' (HS.out.move (fun b h => ⟨h, hb.block b h⟩)) (fun b h => Nat.lt_of_lt_of_le h hb.size) hn'
  have HC8 := Lib.hid (C8.drewN 1)
  have HX8 := Lib.hid (X6.drewN 1)
  have HD := Lib.hid hbD
  clear C8 X6 hb8 hbD
  go_wp2
  go_region_with (first
    | ((go_at_call 30); (with_reducible refine fA.mono ?_); rintro e w6 ⟨gA, rfl, hrA, hb6⟩; have D6 := Blk.later HC8.out hb6 HC8.out.lt; have Y6 := Blk.later HX8.out hb6 HX8.out.lt; have e4 := D6.cell 4 _ rfl; have e5 := D6.cell 5 _ rfl; have hB6 := HD.out.trans (hb6.mono HD.out.size); have fS6 := fS _ hB6; have HRA := Lib.hid hrA)
    | ((go_at_call 32); (with_reducible refine fS6.mono ?_); rintro e w7 ⟨gS, rfl, hrS, hb7⟩; have D7 := D6.later hb7 D6.lt; have Y7 := Y6.later hb7 Y6.lt; have k4 := D7.cell 4 _ rfl; have k5 := D7.cell 5 _ rfl; have j4 := D7.frozen 4; have j5 := D7.frozen 5; have HRS := Lib.hid hrS))
  all_goals
    have Z7 := D7.set45 (.slice (some ⟨gA, 0, none⟩) n n) (.slice (some ⟨gS, 0, none⟩) n' n')
    have Y9 := (Y7.kept (grown_setCell w7 w.heap.size 4 (.slice (some ⟨gA, 0, none⟩) n n)) (by simp)).kept (grown_setCell _ w.heap.size 5 (.slice (some ⟨gS, 0, none⟩) n' n')) (by simp)
    have hB7 := hB6.trans (hb7.mono hB6.size)
    have hB9 := (hB7.setCell (p := ⟨w.heap.size, 4, none⟩) (Nat.le_refl _) (.slice (some ⟨gA, 0, none⟩) n n)).setCell (p := ⟨w.heap.size, 5, none⟩) (Nat.le_refl _) (.slice (some ⟨gS, 0, none⟩) n' n')
    have hK9 : Hid (∀ b, b ≠ w.heap.size → ((w7.setCell ⟨w.heap.size, 4, none⟩ (.slice (some ⟨gA, 0, none⟩) n n)).setCell ⟨w.heap.size, 5, none⟩ (.slice (some ⟨gS, 0, none⟩) n' n')).heap[b]? = w7.heap[b]?) := Lib.hid (fun b hb => by rw [heap_set hb, heap_set hb])
    have hZ9 : Hid (((w7.setCell ⟨w.heap.size, 4, none⟩ (.slice (some ⟨gA, 0, none⟩) n n)).setCell ⟨w.heap.size, 5, none⟩ (.slice (some ⟨gS, 0, none⟩) n' n')).heap.size = w7.heap.size) := Lib.hid (by rw [size_set, size_set])
    have hl8 : Hid (w.heap.size + 1 < W8.drew.heap.size) := Lib.hid HX8.out.lt
    have Hb6 := Lib.hid hb6
    have Hb7 := Lib.hid hb7
    clear D6 D7 Y6 Y7 e4 e5 k4 k5 j4 j5 fS6 hb6 hb7 hrA hrS hB6 hB7
    generalize hW9 : (w7.setCell ⟨w.heap.size, 4, none⟩ (.slice (some ⟨gA, 0, none⟩) n n)).setCell ⟨w.heap.size, 5, none⟩ (.slice (some ⟨gS, 0, none⟩) n' n') = W9 at *
    clear hW9
    have z0 := Z7.cell 0 _ rfl
    have z1 := Z7.cell 1 _ rfl
    have z2 := Z7.cell 2 _ rfl
    have z3 := Z7.cell 3 _ rfl
    have z4 := Z7.cell 4 _ rfl
    have z5 := Z7.cell 5 _ rfl
    have z6 := Z7.cell 6 _ rfl
    have y0 := Y9.cell 0 _ rfl
    have y1 := Y9.cell 1 _ rfl
    have y2 := Y9.cell 2 _ rfl
    have y3 := Y9.cell 3 _ rfl
    have y4 := Y9.cell 4 _ rfl
    have y5 := Y9.cell 5 _ rfl
    have y6 := Y9.cell 6 _ rfl
    have g0 := Y9.frozen 0
    have g1 := Y9.frozen 1
    have g2 := Y9.frozen 2
    have g3 := Y9.frozen 3
    have g4 := Y9.frozen 4
    have g5 := Y9.frozen 5
    have g6 := Y9.frozen 6
    have F9 : Blk (setNd W9 (w.heap.size + 1) 0 p k s nm (.slice (some ⟨gA, 0, none⟩) n n) (.slice (some ⟨gS, 0, none⟩) n' n') t) (w.heap.size + 1) (ndCells p k s nm (.slice (some ⟨gA, 0, none⟩) n n) (.slice (some ⟨gS, 0, none⟩) n' n') t) 38 := setNd_blk Y9
    have r0 := F9.cell 0 _ rfl
    have r1 := F9.cell 1 _ rfl
    have r2 := F9.cell 2 _ rfl
    have r3 := F9.cell 3 _ rfl
    have r4 := F9.cell 4 _ rfl
    have r5 := F9.cell 5 _ rfl
    have r6 := F9.cell 6 _ rfl
    have hBF := setNd_below (o := 0) (p := p) (k := k) (s := s) (nm := nm) (t := t) (v4 := .slice (some ⟨gA, 0, none⟩) n n) (v5 := .slice (some ⟨gS, 0, none⟩) n' n') hB9 (Nat.le_succ w.heap.size)
    have HBF := Lib.hid hBF
    clear hB9 hBF F9
    go_wp2
    change bodyPost _ _ _ _ _ (setNd W9 (w.heap.size + 1) 0 p k s nm (.slice (some ⟨gA, 0, none⟩) n n) (.slice (some ⟨gS, 0, none⟩) n' n') t)
    refine bodyPost_ret (v := .agg #[.int .i64 p, .int .i64 k, .string s, .string nm, .slice (some ⟨gA, 0, none⟩) n n, .slice (some ⟨gS, 0, none⟩) n' n', .string t]) (by simp [results, Tryd.results16, go_sem, r0, r1, r2, r3, r4, r5, r6]) rfl ⟨gA, gS, rfl, ?_, ?_, HBF.out⟩
    · exact HRA.out.move (fun b hb => ⟨⟨by have := hl8.out; have := hb.1; omega, by rw [setNd_size, hZ9.out]; have := hb.2; have := Hb7.out.size; omega⟩, by
        have h1 := hl8.out
        have h2 := hb.1
        rw [setNd_old (by omega), hK9.out b (by omega), Hb7.out.block b hb.2]⟩)
    · exact HRS.out.move (fun b hb => ⟨⟨by have := hl8.out; have := hb.1; have := Hb6.out.size; omega, by rw [setNd_size, hZ9.out]; exact hb.2⟩, by
        have h1 := hl8.out
        have h2 := hb.1
        have h3 := Hb6.out.size
        rw [setNd_old (by omega), hK9.out b (by omega)]⟩)
end

section
open Go.RowKit
set_option linter.unusedVariables false
set_option linter.unusedSimpArgs false

theorem setsNd_len {cs : List Value} {o : Nat} {p k : Int} {s nm t : ByteArray} {v4 v5 : Value} : (setsNd cs o p k s nm v4 v5 t).length = cs.length := by
  unfold setsNd; simp only [List.length_set]
theorem setsNd_other {cs : List Value} {o j : Nat} {p k : Int} {s nm t : ByteArray} {v4 v5 : Value} (h : j < o ∨ o + 6 < j) : (setsNd cs o p k s nm v4 v5 t)[j]? = cs[j]? := by
  unfold setsNd
  rw [List.getElem?_set_ne (by omega), List.getElem?_set_ne (by omega), List.getElem?_set_ne (by omega), List.getElem?_set_ne (by omega), List.getElem?_set_ne (by omega), List.getElem?_set_ne (by omega), List.getElem?_set_ne (by omega)]
theorem setsNd_self {cs : List Value} {o : Nat} {p k : Int} {s nm t : ByteArray} {v4 v5 : Value} (h : o + 6 < cs.length) :
    (setsNd cs o p k s nm v4 v5 t)[o]? = some (.int .i64 p) ∧ (setsNd cs o p k s nm v4 v5 t)[o + 1]? = some (.int .i64 k) ∧ (setsNd cs o p k s nm v4 v5 t)[o + 2]? = some (.string s) ∧ (setsNd cs o p k s nm v4 v5 t)[o + 3]? = some (.string nm) ∧
    (setsNd cs o p k s nm v4 v5 t)[o + 4]? = some v4 ∧ (setsNd cs o p k s nm v4 v5 t)[o + 5]? = some v5 ∧ (setsNd cs o p k s nm v4 v5 t)[o + 6]? = some (.string t) := by
  unfold setsNd
  refine ⟨?_, ?_, ?_, ?_, ?_, ?_, ?_⟩
  · rw [List.getElem?_set_ne (by omega), List.getElem?_set_ne (by omega), List.getElem?_set_ne (by omega), List.getElem?_set_ne (by omega), List.getElem?_set_ne (by omega), List.getElem?_set_ne (by omega), List.getElem?_set_self (by omega)]
  · rw [List.getElem?_set_ne (by omega), List.getElem?_set_ne (by omega), List.getElem?_set_ne (by omega), List.getElem?_set_ne (by omega), List.getElem?_set_ne (by omega), List.getElem?_set_self (by simp only [List.length_set]; omega)]
  · rw [List.getElem?_set_ne (by omega), List.getElem?_set_ne (by omega), List.getElem?_set_ne (by omega), List.getElem?_set_ne (by omega), List.getElem?_set_self (by simp only [List.length_set]; omega)]
  · rw [List.getElem?_set_ne (by omega), List.getElem?_set_ne (by omega), List.getElem?_set_ne (by omega), List.getElem?_set_self (by simp only [List.length_set]; omega)]
  · rw [List.getElem?_set_ne (by omega), List.getElem?_set_ne (by omega), List.getElem?_set_self (by simp only [List.length_set]; omega)]
  · rw [List.getElem?_set_ne (by omega), List.getElem?_set_self (by simp only [List.length_set]; omega)]
  · rw [List.getElem?_set_self (by simp only [List.length_set]; omega)]

/-- A document copied: it reads the same, in new memory. -/
def CopyD (xs : List Nd) (n : Nat) (w : World) (e : Ending) (w' : World) : Prop := ∃ g, e = .returned (.slice (some ⟨g, 0, none⟩) n n) ∧ w.heap.size ≤ g ∧ g < w'.heap.size ∧ RdN (fun b => w.heap.size ≤ b ∧ b < w'.heap.size) w' (some ⟨g, 0, none⟩) n n xs ∧ Below w.heap.size w w'

set_option maxRecDepth 100000 in
set_option maxHeartbeats 4000000 in
theorem copiedN_any (xs : List Nd) (a : Option Addr) (n c : Nat) (w : World) (hx : RdN (· < w.heap.size) w a n c xs) (hn : n ≤ 1000000) (hsm : ∀ x ∈ xs, x.attrs.length ≤ 1000000 ∧ x.states.length ≤ 1000000) :
    Calls Tryd.prog 15 #[.slice a n c, .func (.func 16) #[] #[]] w (CopyD xs n w) := by
  have hmk := make_any 22 38 _ 7 112 Tryd.underlying22 TrydinfoNode n (by omega) (by omega)
  obtain ⟨cs0, hl0, hB0⟩ := made_blk w (Value.agg #[.int .i64 0, .int .i64 0, .string ⟨#[]⟩, .string ⟨#[]⟩, .slice none 0 0, .slice none 0 0, .string ⟨#[]⟩]).cells (n * 7) 38
  have hb0 := (Below.refl w.heap.size w).alloc (Nat.le_refl _) (.cells (madeCells (Value.agg #[.int .i64 0, .int .i64 0, .string ⟨#[]⟩, .string ⟨#[]⟩, .slice none 0 0, .slice none 0 0, .string ⟨#[]⟩]).cells (n * 7)) 38)
  have hm : n ≤ 9223372036854775807 := by omega
  have HN := Lib.hid hx.1
  have HX := Lib.hid hx
  have HM := Lib.hid hmk
  have HL0 := Lib.hid hl0
  have HB0 := Lib.hid hB0
  have Hb0 := Lib.hid hb0
  have HSM := Lib.hid hsm
  clear hx hmk hl0 hB0 hb0 hsm
  have hmk := HM.out w
  go_enter Tryd.func15, Tryd.ntmps15
  go_wp2_with fail
  clear hmk
  go_loopw [13] (fun i wr => ∃ (k : Nat) (cs : List Value), k ≤ n ∧ i = .int .i64 k ∧ Hid (Blk wr w.heap.size cs 38) ∧ Hid (cs.length = n * 7) ∧ Hid (∀ (i : Nat) (x : Nd), i < k → xs[i]? = some x → NdC (fun b => w.heap.size < b ∧ b < wr.heap.size) wr cs (i * 7) x) ∧ Hid (Below w.heap.size w wr)) (fun i _ => n - (intOf i).toNat)
  case atStart => exact ⟨0, cs0, Nat.zero_le _, rfl, Lib.hid (by have := HB0.out; exact this), Lib.hid (by rw [HL0.out]), Lib.hid (fun i x h => by omega), Lib.hid (by have := Hb0.out; exact this)⟩
  case round =>
    obtain ⟨k, cs, hk, rfl, HB, HL, HC, HW⟩ := hrel
    by_cases hlt : k < n
    · obtain ⟨x, hxk⟩ : ∃ x, xs[k]? = some x := ⟨_, List.getElem?_eq_getElem (by rw [← HN.out]; exact hlt)⟩
      obtain ⟨b, off, rfl, hb, x0, x1, x2, x3, ⟨a1, n1, c1, x4, hA1⟩, ⟨a2, n2, c2, x5, hS1⟩, x6, hz0, hz1, hz2⟩ := HX.out.at k x hxk
      have hsx := HSM.out x (List.mem_of_getElem? hxk)
      have hn1 : n1 ≤ 1000000 := by rw [hA1.1]; exact hsx.1
      have hn2 : n2 ≤ 1000000 := by rw [hS1.1]; exact hsx.2
      rw [← cell_same (HW.out.block b hb)] at x0 x1 x2 x3 x4 x5 x6
      have hbX := HW.out.alloc HW.out.size (.cells [.int .i64 x.par, .int .i64 x.kind, .string x.space, .string x.name, .slice a1 n1 c1, .slice a2 n2 c2, .string x.text].toArray 38)
      have B1 := HB.out.alloc_old (.cells [.int .i64 x.par, .int .i64 x.kind, .string x.space, .string x.name, .slice a1 n1 c1, .slice a2 n2 c2, .string x.text].toArray 38)
      have fC := copyNode_any x.par x.kind x.space x.name x.text x.attrs x.states a1 a2 n1 n2 c1 c2 (wr.alloc (.cells [.int .i64 x.par, .int .i64 x.kind, .string x.space, .string x.name, .slice a1 n1 c1, .slice a2 n2 c2, .string x.text].toArray 38)) (hA1.move (fun bl h => ⟨Nat.lt_of_lt_of_le h hbX.size, hbX.block bl h⟩)) (hS1.move (fun bl h => ⟨Nat.lt_of_lt_of_le h hbX.size, hbX.block bl h⟩)) hz0 hz1 hz2 hn1 hn2
      have hkI : (0 : Int) ≤ (k : Int) := by omega
      have hkI2 : (k : Int) < (n : Int) := by omega
      have hgt : ∀ f, f < 7 → ∃ o, cs[k * 7 + f]? = some o := fun f hf => ⟨_, List.getElem?_eq_getElem (by rw [HL.out]; omega)⟩
      have HGT := Lib.hid hgt
      have HXK := Lib.hid hxk
      have HBX := Lib.hid hbX
      have HB1 := Lib.hid B1
      have HZ := Lib.hid (And.intro hz0 (And.intro hz1 hz2))
      clear hA1 hS1 hxk hbX B1 hgt hsx hz0 hz1 hz2
      go_wp2_with (go_at_call 16; (with_reducible refine fC.mono ?_); rintro e w2 ⟨gA, gS, rfl, hrA, hrS, hb2⟩; have B2 := HB1.out.later hb2 HB1.out.lt; obtain ⟨o0, ho0⟩ := HGT.out 0 (by omega); obtain ⟨o1, ho1⟩ := HGT.out 1 (by omega); obtain ⟨o2, ho2⟩ := HGT.out 2 (by omega); obtain ⟨o3, ho3⟩ := HGT.out 3 (by omega); obtain ⟨o4, ho4⟩ := HGT.out 4 (by omega); obtain ⟨o5, ho5⟩ := HGT.out 5 (by omega); obtain ⟨o6, ho6⟩ := HGT.out 6 (by omega); have d0 := B2.cell (k * 7) _ ho0; have d1 := B2.cell (k * 7 + 1) _ ho1; have d2 := B2.cell (k * 7 + 2) _ ho2; have d3 := B2.cell (k * 7 + 3) _ ho3; have d4 := B2.cell (k * 7 + 4) _ ho4; have d5 := B2.cell (k * 7 + 5) _ ho5; have d6 := B2.cell (k * 7 + 6) _ ho6; have g0 := B2.frozen (k * 7); have g1 := B2.frozen (k * 7 + 1); have g2 := B2.frozen (k * 7 + 2); have g3 := B2.frozen (k * 7 + 3); have g4 := B2.frozen (k * 7 + 4); have g5 := B2.frozen (k * 7 + 5); have g6 := B2.frozen (k * 7 + 6); have HRA := Lib.hid hrA; have HRS := Lib.hid hrS; clear ho0 ho1 ho2 ho3 ho4 ho5 ho6 hrA hrS)
      have B3 := Lib.hid (setNd_blk (o := k * 7) (p := x.par) (k := x.kind) (s := x.space) (nm := x.name) (t := x.text) (v4 := .slice (some ⟨gA, 0, none⟩) n1 n1) (v5 := .slice (some ⟨gS, 0, none⟩) n2 n2) B2)
      have Hb3 := Lib.hid (setNd_below (o := k * 7) (p := x.par) (k := x.kind) (s := x.space) (nm := x.name) (t := x.text) (v4 := .slice (some ⟨gA, 0, none⟩) n1 n1) (v5 := .slice (some ⟨gS, 0, none⟩) n2 n2) (HBX.out.trans (hb2.mono HBX.out.size)) (Nat.le_refl w.heap.size))
      have Hb2 := Lib.hid hb2
      clear hb2 B2 d0 d1 d2 d3 d4 d5 d6 g0 g1 g2 g3 g4 g5 g6
      go_wp2
      go_roundw
      case rel =>
        change ∃ (k' : Nat) (cs : List Value), _ ∧ _ ∧ Hid (Blk (setNd w2 w.heap.size (k * 7) x.par x.kind x.space x.name (.slice (some ⟨gA, 0, none⟩) n1 n1) (.slice (some ⟨gS, 0, none⟩) n2 n2) x.text) _ _ _) ∧ _ ∧ Hid (∀ (i : Nat) (y : Nd), i < k' → xs[i]? = some y → NdC (fun b => w.heap.size < b ∧ b < (setNd w2 w.heap.size (k * 7) x.par x.kind x.space x.name (.slice (some ⟨gA, 0, none⟩) n1 n1) (.slice (some ⟨gS, 0, none⟩) n2 n2) x.text).heap.size) (setNd w2 w.heap.size (k * 7) x.par x.kind x.space x.name (.slice (some ⟨gA, 0, none⟩) n1 n1) (.slice (some ⟨gS, 0, none⟩) n2 n2) x.text) cs (i * 7) y) ∧ Hid (Below _ _ (setNd w2 w.heap.size (k * 7) x.par x.kind x.space x.name (.slice (some ⟨gA, 0, none⟩) n1 n1) (.slice (some ⟨gS, 0, none⟩) n2 n2) x.text))
        refine ⟨k + 1, _, by omega, by go_num, B3, Lib.hid (by rw [setsNd_len]; exact HL.out), Lib.hid (fun i y hi hy => ?_), Hb3⟩
        have hl := HL.out
        have hwr := HW.out.size
        have hgl := HB.out.lt
        have h2 := Hb2.out.size
        have h2a : wr.heap.size + 1 ≤ w2.heap.size := by simpa using h2
        by_cases he : i = k
        · subst he
          rw [HXK.out] at hy
          cases hy
          obtain ⟨q0, q1, q2, q3, q4, q5, q6⟩ := setsNd_self (cs := cs) (o := i * 7) (p := x.par) (k := x.kind) (s := x.space) (nm := x.name) (t := x.text) (v4 := .slice (some ⟨gA, 0, none⟩) n1 n1) (v5 := .slice (some ⟨gS, 0, none⟩) n2 n2) (by omega)
          exact ⟨q0, q1, q2, q3, ⟨_, _, _, q4, HRA.out.move (fun b hb => ⟨⟨by have := hb.1; simp at this; omega, by rw [setNd_size]; exact hb.2⟩, setNd_old (by have := hb.1; simp at this; omega)⟩)⟩, ⟨_, _, _, q5, HRS.out.move (fun b hb => ⟨⟨by have := hb.1; simp at this; omega, by rw [setNd_size]; exact hb.2⟩, setNd_old (by have := hb.1; simp at this; omega)⟩)⟩, q6, HZ.out⟩
        · have hN := HC.out i y (by omega) hy
          have hN2 : NdC (fun b => w.heap.size < b ∧ b < (setNd w2 w.heap.size (k * 7) x.par x.kind x.space x.name (.slice (some ⟨gA, 0, none⟩) n1 n1) (.slice (some ⟨gS, 0, none⟩) n2 n2) x.text).heap.size) (setNd w2 w.heap.size (k * 7) x.par x.kind x.space x.name (.slice (some ⟨gA, 0, none⟩) n1 n1) (.slice (some ⟨gS, 0, none⟩) n2 n2) x.text) cs (i * 7) y :=
            hN.move (fun b hb => ⟨⟨hb.1, by rw [setNd_size]; have := hb.2; omega⟩, by
              rw [setNd_old (by have := hb.1; omega), Hb2.out.block b (by have := hb.2; simp; omega), Below.heap_alloc wr _ b hb.2]⟩)
          obtain ⟨p0, p1, p2, p3, ⟨e1, m1, d1, p4, p4'⟩, ⟨e2, m2, d2, p5, p5'⟩, p6, p7⟩ := hN2
          have hot : ∀ f, f < 7 → (setsNd cs (k * 7) x.par x.kind x.space x.name (.slice (some ⟨gA, 0, none⟩) n1 n1) (.slice (some ⟨gS, 0, none⟩) n2 n2) x.text)[i * 7 + f]? = cs[i * 7 + f]? := fun f hf => setsNd_other (by omega)
          exact ⟨(hot 0 (by omega)).trans p0, (hot 1 (by omega)).trans p1, (hot 2 (by omega)).trans p2, (hot 3 (by omega)).trans p3, ⟨e1, m1, d1, (hot 4 (by omega)).trans p4, p4'⟩, ⟨e2, m2, d2, (hot 5 (by omega)).trans p5, p5'⟩, (hot 6 (by omega)).trans p6, p7⟩
      case measure => simp [intOf]; omega
    · have hkI : ¬ (k : Int) < (n : Int) := by omega
      obtain rfl : k = n := by omega
      go_wp2
      go_ret
      refine ⟨w.heap.size, rfl, Nat.le_refl _, HB.out.lt, ⟨HN.out, Nat.le_refl _, ⟨by unfold maxLen; omega, by omega, fun h => by cases h⟩, .inr ⟨w.heap.size, 0, rfl, ⟨Nat.le_refl _, HB.out.lt⟩, fun i x hxi => ?_⟩⟩, HW.out⟩
      have hi : i < k := by rw [HN.out]; exact (List.getElem?_eq_some_iff.1 hxi).1
      rw [Nat.zero_add]
      exact ((HC.out i x hi hxi).move (fun b hb => ⟨⟨by have := hb.1; omega, hb.2⟩, rfl⟩)).at HB.out
end
end Go.Proofs.YtknggcbhfkbelaaDoor
