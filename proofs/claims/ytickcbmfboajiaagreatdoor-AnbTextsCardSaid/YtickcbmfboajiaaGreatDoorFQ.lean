/- Several texts of mine in one. -/
import Derived.Test.YtickcbmfboajiaaGreatDoorFH
import Derived.Test.YtickcbmfboajiaaGreatDoorFP
namespace Go.Proofs.YtickcbmfboajiaaGreatDoor
section
open Go.RowKit Go.Extern.Stop Go.Stop Go.Extern

/-- strconv.ErrRange as the row lists it. -/
def HasERv (w : World) : Prop := ∃ p : Addr, w.var? Tryz.prog "strconv.ErrRange" = some #[.iface 174 (.pointer (some p))] ∧ w.cell? ⟨0, 0, none⟩ = some (.iface 174 (.pointer (some p)))

theorem Tryz.mUnwrapN (p : Value) (w : World) : (Go.method 324 149 p "Unwrap").run Tryz.prog w = .ok (224, p) w := by kernel_rfl
theorem Tryz.tOfES (v : Value) (w : World) : (ReflectliteType.typeOf #[.iface 174 v]).run Tryz.prog w = .ok (.iface 121 (.agg #[.pointer (some ⟨10, 174, none⟩)])) w := by kernel_rfl
theorem Tryz.comparableES (w : World) : (ReflectliteType.method (fun t => do Rtype.noPackHeld "Comparable" t; (fun a : TypeInfo => Value.bool a.comparable) <$> typeInfo t) #[.agg #[.pointer (some ⟨10, 174, none⟩)]]).run Tryz.prog w = .ok (.bool true) w := by kernel_rfl
theorem Tryz.eqNE (a b : Addr) (w : World) : (binOp .eql 35 (.iface 149 (.pointer (some a))) (.iface 174 (.pointer (some b)))).run Tryz.prog w = .ok (.bool false) w := by kernel_rfl
theorem Tryz.assertIsN (p : Addr) (w : World) : (Instr.typeAssert (.iface 149 (.pointer (some p))) 35 123 true).run Tryz.prog w = .ok (.tuple #[.nilIface, .bool false]) w :=
  run_typeAssert_lacksB Tryz.underlying123 (by kernel_rfl) (by kernel_rfl) _ _ w
theorem Tryz.assertUnwrapN (p : Addr) (w : World) : (Instr.typeAssert (.iface 149 (.pointer (some p))) 35 126 true).run Tryz.prog w = .ok (.tuple #[.iface 149 (.pointer (some p)), .bool true]) w := by kernel_rfl

set_option maxRecDepth 100000 in
set_option maxHeartbeats 2000000 in
theorem isRange_any (N : Nat) (p : Addr) (a b : Value) (w : World) (hB : Blk w N [a, b, .iface 174 (.pointer (some p))] 163) :
    Calls Tryz.prog 55 #[.iface 149 (.pointer (some ⟨N, 0, none⟩)), .iface 174 (.pointer (some p)), .bool true] w (Tells (.bool true) w) := by
  have c2 := hB.cell 2 _ rfl
  have m2 := Tryz.mUnwrapN
  have m3 := Tryz.eqNE
  have a2 := Tryz.assertIsN
  have a3 := Tryz.assertUnwrapN
  obtain ⟨j, hj, hj2⟩ := Option.map_eq_some_iff.1 (show (Tryz.prog.info? 174).map (fun i => i.comparable) = some true by kernel_rfl)
  obtain ⟨j3, hj3, _⟩ := Option.map_eq_some_iff.1 (show (Tryz.prog.info? 176).map (fun i => i.size) = some 1 by kernel_rfl)
  have m4 := fun w => Go.run_eql_iface_ptr_same (P := Tryz.prog) w p Tryz.underlying35 Tryz.underlying174 hj hj2 hj3
  go_enter Tryz.func55, Tryz.ntmps55
  go_wp2_with fail
  refine wp_loop_rounds 2 ?_
  rw [rounds_succ]
  go_wp2
  rw [rounds_succ]
  go_wp2
  go_ret
  exact ⟨rfl, rfl⟩
set_option maxRecDepth 100000 in
set_option maxHeartbeats 2000000 in
theorem IsRange_any (N : Nat) (p : Addr) (a b : Value) (w : World) (hB : Blk w N [a, b, .iface 174 (.pointer (some p))] 163) :
    Calls Tryz.prog 32 #[.iface 149 (.pointer (some ⟨N, 0, none⟩)), .iface 174 (.pointer (some p))] w (Tells (.bool true) w) := by
  have h := isRange_any N p a b w hB
  have h10 := @run_callFunc_extern Tryz.prog 54 _ ReflectliteType.typeOf Tryz.func54 (by kernel_rfl) (by kernel_rfl) (by kernel_rfl) (by kernel_rfl)
  have h11 := @run_callFunc_extern Tryz.prog 213 _ (ReflectliteType.method (fun t => do Rtype.noPackHeld "Comparable" t; pure (.bool (← typeInfo t).comparable))) Tryz.func213 (by kernel_rfl) (by kernel_rfl) (by kernel_rfl) (by kernel_rfl)
  have m1 := Tryz.mComparable
  have m2 := Tryz.tOfES
  have m3 := Tryz.comparableES
  go_enter Tryz.func32, Tryz.ntmps32
  go_wp2_with (go_at_call 55; refine h.mono ?_; rintro r w' ⟨rfl, hw⟩; replace hw := hw.symm; subst hw)
  go_ret
  exact ⟨rfl, rfl⟩

/-- What Whole tells of any text: the number, and the error's kind. -/
def wholeK (s : ByteArray) : Int × Int := if numB s = false then (0, 10) else if -2147483647 ≤ valS s ∧ valS s ≤ 2147483647 then (valS s, 0) else (0, 3)
def WholeP (k : Int × Int) (w : World) (r : Ending) (w' : World) : Prop :=
  Below w.heap.size w w' ∧ ((k.2 = 0 ∧ r = .returned (.tuple #[.int .i64 k.1, .nilIface])) ∨
    (k.1 = 0 ∧ k.2 ≠ 0 ∧ ∃ e, w.heap.size ≤ e ∧ r = .returned (.tuple #[.int .i64 0, fltV e]) ∧ Blk w' e [.int .i64 k.2, .int .i64 0, .nilIface] 69))

set_option maxRecDepth 100000 in
set_option maxHeartbeats 2000000 in
theorem wholeAll_any (s : ByteArray) (w : World) (hER : HasERv w) (hs : s.size ≤ 1000000) : Calls Tryz.prog 31 #[.string s] w (WholeP (wholeK s) w) := by
  have hn := isNumber_any s w hs
  obtain ⟨p, hvar, hcell⟩ := hER
  have hlt : 0 < w.heap.size := World.block_lt_of_cell? w _ hcell
  have HC := Lib.hid hcell; clear hcell
  have HV := Lib.hid hvar; clear hvar
  have hvl : ∀ w' : World, Below w.heap.size w w' → w'.var? Tryz.prog "strconv.ErrRange" = some #[.iface 174 (.pointer (some p))] ∧ w'.cell? ⟨0, 0, none⟩ = some (.iface 174 (.pointer (some p))) := fun w' hb => by
    refine ⟨?_, (hb.cell (p := ⟨0, 0, none⟩) hlt).trans HC.out⟩
    have h0 := HV.out
    unfold World.var? at h0 ⊢
    rw [Tryz.gER] at h0 ⊢
    simpa [hb.block _ hlt] using h0
  have HVL := Lib.hid hvl; clear hvl
  rcases hnum : numB s with _ | _
  · have hK : wholeK s = (0, 10) := by unfold wholeK; rw [hnum]; rfl
    rw [hK]
    rw [hnum] at hn
    go_enter Tryz.func31, Tryz.ntmps31
    go_wp2_with fail
    refine hn.mono ?_
    rintro e w1 ⟨rfl, hb1⟩
    go_wp2_with fail
    refine (fail_any 10 0 _).mono ?_
    rintro e w2 ⟨rfl, rfl⟩
    go_wp2
    go_ret2
    exact ⟨hb1.alloc hb1.size _, .inr ⟨rfl, by decide, _, hb1.size, rfl, Blk.alloc _ _⟩⟩
  · rw [hnum] at hn
    rcases atoiAll_num s hnum with hok | ⟨hrg, hov⟩
    · have hA := fun w => Tryz.strconv_Atoi_ok s (by omega) (valS s) hok w
      have hbd := Lib.atoiAll_bounds hok
      obtain ⟨q1, q2⟩ := hbd
      have hK : wholeK s = if -2147483647 ≤ valS s ∧ valS s ≤ 2147483647 then (valS s, 0) else (0, 3) := by unfold wholeK; rw [hnum, if_neg (by decide)]
      rw [hK]
      clear hK hok hnum
      generalize valS s = v at *
      rcases (show (v ≤ 2147483647 ∧ -2147483647 ≤ v) ∨ (2147483647 < v) ∨ (v ≤ 2147483647 ∧ v < -2147483647) from by omega) with ⟨b1, b2⟩ | b1 | ⟨b1, b2⟩
      all_goals
        go_enter Tryz.func31, Tryz.ntmps31
        go_wp2_with fail
        refine hn.mono ?_
        rintro e w1 ⟨rfl, hb1⟩
        go_wp2_with fail
        refine (hA _).mono ?_
        rintro e w2 ⟨rfl, hw2⟩
        have hb2 : Below w1.heap.size w1 w2 := by
          rcases hw2 with rfl | ⟨t, rfl⟩
          · exact Below.refl _ _
          · rw [show Lib.bytesWorld w1 5 t = w1.drew.alloc (.cells (Lib.bytesCells w1 5 t) 5 ((Lib.bytesCells w1 5 t).size, (Lib.bytesCells w1 5 t).size + 1)) from freeze_new w1.drew _ _ _]
            exact ((Below.refl _ w1).drew).alloc (Nat.le_refl _) _
        clear hw2
        have hb := hb1.trans (hb2.mono hb1.size)
        obtain ⟨_, hc⟩ := HVL.out _ hb
        have hi := fun w => is_nil_any 174 (.pointer (some p)) w
        go_wp2_with (go_at_call 32; refine (hi _).mono ?_; rintro e wq ⟨rfl, hwq⟩; replace hwq := hwq.symm; subst hwq)
      · go_ret2
        exact ⟨hb, .inl ⟨rfl, rfl⟩⟩
      · refine (fail_any 3 0 _).mono ?_
        rintro e w3 ⟨rfl, rfl⟩
        go_wp2
        go_ret2
        exact ⟨hb.alloc hb.size _, .inr ⟨rfl, by decide, _, hb.size, rfl, Blk.alloc _ _⟩⟩
      · refine (fail_any 3 0 _).mono ?_
        rintro e w3 ⟨rfl, rfl⟩
        go_wp2
        go_ret2
        exact ⟨hb.alloc hb.size _, .inr ⟨rfl, by decide, _, hb.size, rfl, Blk.alloc _ _⟩⟩
    · have hK : wholeK s = (0, 3) := by unfold wholeK; rw [hnum, if_neg (by decide), if_neg hov]
      rw [hK]
      go_enter Tryz.func31, Tryz.ntmps31
      go_wp2_with fail
      refine hn.mono ?_
      rintro e w1 ⟨rfl, hb1⟩
      go_wp2_with fail
      refine (Tryz.strconv_Atoi_range_var s (by omega) hrg 174 (.pointer (some p)) w1 (HVL.out _ hb1).1).mono ?_
      rintro e w2 ⟨N, rfl, hN, hNB, hb2⟩
      have hb := hb1.trans (hb2.mono hb1.size)
      obtain ⟨_, hc⟩ := HVL.out _ hb
      have hI := IsRange_any N p _ _ w2 hNB
      generalize Lib.atoiSat s.data.toList = sat at *
      go_wp2_with (go_at_call 32; refine hI.mono ?_; rintro e wq ⟨rfl, hwq⟩; replace hwq := hwq.symm; subst hwq)
      refine (fail_any 3 0 _).mono ?_
      rintro e w3 ⟨rfl, rfl⟩
      go_wp2
      go_ret2
      exact ⟨hb.alloc hb.size _, .inr ⟨rfl, by decide, _, hb.size, rfl, Blk.alloc _ _⟩⟩
end

section
open Go.RowKit

theorem get_at (s : ByteArray) (k : Nat) (h : k < s.size) : (strB s)[k]? = some (s[k]'h) := by
  unfold strB
  rw [Array.getElem?_toList]
  exact Array.getElem?_eq_getElem h
theorem part_snoc (s : ByteArray) (a k : Nat) (hk : k < s.size) (ha : a ≤ k) : ((strB s).drop a).take (k + 1 - a) = ((strB s).drop a).take (k - a) ++ [s[k]'hk] := by
  rw [show k + 1 - a = (k - a) + 1 from by omega, List.take_add_one, List.getElem?_drop, show a + (k - a) = k from by omega, get_at s k hk]
  rfl
def digD (l : List UInt8) : Bool := l.all fun b => digitB b.toNat
theorem numB_plain {s : ByteArray} (h : signedB s = false) : numB s = (digD ((strB s).drop 0) && decide (0 < s.size)) := by unfold numB; rw [h]; rfl
theorem numB_signed {s : ByteArray} (h : signedB s = true) : numB s = (digD ((strB s).drop 1) && decide (1 < s.size)) := by
  unfold numB
  rw [h, if_pos rfl, tailS_size]
  unfold bytesAll digD
  rw [tailS_bytes]
  congr 1
  exact decide_eq_decide.2 (by omega)

set_option maxRecDepth 100000 in
set_option maxHeartbeats 4000000 in
theorem rwhole_any (s : ByteArray) (w : World) (hs : s.size ≤ 1000000) : Calls Tryz.prog 34 #[.string s] w (Tells (.tuple #[.int .i64 (wholeK s).1, .int .i64 (wholeK s).2]) w) := by
  by_cases h1 : 0 < s.size
  · have h1' : (0 : Int) < (s.size : Int) := by omega
    by_cases h45 : s[0]'h1 = 45
    · have hsg : signedB s = true := by unfold signedB; rw [first_of s h1, first_of s h1, h45]; rfl
      have HVS : Hid (valS s = - valD ((strB s).drop 1) 0) := Lib.hid (by unfold valS; rw [first_of s h1, h45, if_pos (by decide), tailS_bytes])
      have HNB := Lib.hid (numB_signed hsg)
      have q0 : (((s[0]'h1).toNat : Nat) : Int) = 45 := by rw [h45]; rfl
      by_cases hpos : 1 < s.size
      · have hp1 : ¬ (1 : Int) = (s.size : Int) := by omega
        have hp2 : ((1 : Int) == (s.size : Int)) = false := beq_eq_false_iff_ne.2 (by omega)
        clear hsg h45
        go_enter Tryz.func34, Tryz.ntmps34
        go_wp2_with fail
        go_loopw [6, 5] (fun i c wr => ∃ (k : Nat) (m : Int), i = .int .i64 k ∧ c = .int .i64 m ∧ 1 ≤ k ∧ k ≤ s.size ∧ Hid (digD (((strB s).drop 1).take (k - 1)) = true) ∧ Hid ((m ≤ 2147483647 ∧ m = valD (((strB s).drop 1).take (k - 1)) 0) ∨ (2147483647 < m ∧ 2147483647 < valD (((strB s).drop 1).take (k - 1)) 0)) ∧ 0 ≤ m ∧ m ≤ 21474836479 ∧ wr = w) (fun i _ _ => s.size - (intOf i).toNat)
        case atStart => exact ⟨1, 0, rfl, rfl, by omega, by omega, Lib.hid (by simp [digD]), Lib.hid (.inl ⟨by omega, by simp [valD]⟩), by omega, by omega, rfl⟩
        case round =>
          obtain ⟨k, m, rfl, rfl, hak, hk, hdg, hrelv, hm0, hm1, rfl⟩ := hrel
          by_cases hks : k < s.size
          · have hks' : (k : Int) < (s.size : Int) := by omega
            have hsn := part_snoc s 1 k hks hak
            have hbl := (s[k]'hks).toNat_lt
            have hd := fun w => rdigit_any (((s[k]'hks).toNat : Nat) : Int) w ⟨by omega, by omega⟩
            have hw : wrap64 (((s[k]'hks).toNat : Nat) : Int) = (s[k]'hks).toNat := by unfold wrap64; omega
            have HD : Hid (digD (((strB s).drop 1).take (k + 1 - 1)) = digitB (((s[k]'hks).toNat : Nat) : Int)) := Lib.hid (by have := hdg.out; unfold digD at this ⊢; rw [hsn, List.all_append, this]; simp)
            have HV : Hid (valD (((strB s).drop 1).take (k + 1 - 1)) 0 = valD (((strB s).drop 1).take (k - 1)) 0 * 10 + ((((s[k]'hks).toNat : Nat) : Int) - 48)) := Lib.hid (by rw [hsn, valD_snoc])
            have hge : 0 ≤ valD (((strB s).drop 1).take (k - 1)) 0 := valD_ge _ 0 (by omega) (fun b hb => by have := hdg.out; unfold digD at this; exact List.all_eq_true.1 this b hb)
            have HF : Hid (digitB (((s[k]'hks).toNat : Nat) : Int) = false → digD ((strB s).drop 1) = false) := Lib.hid (fun h => by
              unfold digD
              rw [List.all_eq_false]
              refine ⟨s[k]'hks, ?_, by rw [h]; decide⟩
              have e := hsn
              have hmem : s[k]'hks ∈ ((strB s).drop 1).take (k + 1 - 1) := by rw [e]; simp
              exact List.mem_of_mem_take hmem)
            have hdd : digitB (((s[k]'hks).toNat : Nat) : Int) = true → 48 ≤ (((s[k]'hks).toNat : Nat) : Int) ∧ (((s[k]'hks).toNat : Nat) : Int) ≤ 57 := fun h => by unfold digitB at h; rwa [decide_eq_true_iff] at h
            have HDD := Lib.hid hdd
            have HG := Lib.hid hge
            clear hsn hdg hdd hge
            generalize valD (((strB s).drop 1).take (k - 1)) 0 = v0 at *
            generalize digitB (((s[k]'hks).toNat : Nat) : Int) = r at *
            generalize hx : (((s[k]'hks).toNat : Nat) : Int) = x at *
            cases r
            · have hK : wholeK s = (0, 10) := by unfold wholeK; rw [HNB.out, HF.out rfl]; rfl
              go_wp2_with (go_at_call 61; refine (hd _).mono ?_; rintro e wq ⟨rfl, hwq⟩; replace hwq := hwq.symm; subst hwq)
              go_ret2
              exact ⟨by first | rfl | (rw [hK]; rfl), rfl⟩
            · obtain ⟨x1, x2⟩ := HDD.out rfl
              by_cases hmM : m ≤ 2147483647
              · go_wp2_with (go_at_call 61; refine (hd _).mono ?_; rintro e wq ⟨rfl, hwq⟩; replace hwq := hwq.symm; subst hwq)
                go_roundw
                case rel => exact ⟨k + 1, 10 * m + x - 48, by go_num, by go_num, by omega, by omega, HD, Lib.hid (by have := HV.out; have := hrelv.out; omega), by omega, by omega, by first | rfl | trivial⟩
                case measure => simp [intOf]; omega
              · go_wp2_with (go_at_call 61; refine (hd _).mono ?_; rintro e wq ⟨rfl, hwq⟩; replace hwq := hwq.symm; subst hwq)
                go_roundw
                case rel => exact ⟨k + 1, m, by go_num, by go_num, by omega, by omega, HD, Lib.hid (by have := HV.out; have := hrelv.out; have := HG.out; omega), by omega, by omega, by first | rfl | trivial⟩
                case measure => simp [intOf]; omega
          · have hke : k = s.size := by omega
            have hfull : ((strB s).drop 1).take (k - 1) = (strB s).drop 1 := List.take_of_length_le (by rw [List.length_drop, strB_len]; omega)
            rw [hfull] at hdg hrelv
            have hN : numB s = true := by rw [HNB.out, hdg.out, Bool.true_and]; exact decide_eq_true hpos
            have hrv := hrelv.out
            have hvs := HVS.out
            clear hrelv hdg
            by_cases hmM : 2147483647 < m
            · have hK : wholeK s = (0, 3) := by unfold wholeK; rw [hN, if_neg (by decide), if_neg (by rw [hvs]; omega)]
              clear hrv hvs
              go_wp2
              go_ret2
              exact ⟨by first | rfl | (rw [hK]; rfl), rfl⟩
            · have hmv : m = valD ((strB s).drop 1) 0 := by omega
              have hK : wholeK s = (-m, 0) := by unfold wholeK; rw [hN, if_neg (by decide), if_pos (by rw [hvs]; omega), hvs, ← hmv]
              clear hrv hvs hmv
              go_wp2
              go_ret2
              exact ⟨by first | rfl | (rw [hK]; rfl), rfl⟩
      · have hK : wholeK s = (0, 10) := by unfold wholeK; rw [HNB.out, decide_eq_false hpos, Bool.and_false]; rfl
        have hz1 : s.size = 1 := by omega
        have hz2 : ((s.size : Nat) : Int) = 1 := by omega
        have hp2 : ((1 : Int) == (s.size : Int)) = true := beq_iff_eq.2 (by omega)
        clear hsg h45
        go_enter Tryz.func34, Tryz.ntmps34
        go_wp2
        go_ret2
        exact ⟨by first | rfl | (rw [hK]; rfl), rfl⟩
    · by_cases h43 : s[0]'h1 = 43
      · have hsg : signedB s = true := by unfold signedB; rw [first_of s h1, first_of s h1, h43]; rfl
        have HVS : Hid (valS s = valD ((strB s).drop 1) 0) := Lib.hid (by unfold valS; rw [first_of s h1, first_of s h1, h43, if_neg (by decide), if_pos (by decide), tailS_bytes])
        have HNB := Lib.hid (numB_signed hsg)
        have q0 : (((s[0]'h1).toNat : Nat) : Int) = 43 := by rw [h43]; rfl
        by_cases hpos : 1 < s.size
        · have hp1 : ¬ (1 : Int) = (s.size : Int) := by omega
          have hp2 : ((1 : Int) == (s.size : Int)) = false := beq_eq_false_iff_ne.2 (by omega)
          clear hsg h43
          go_enter Tryz.func34, Tryz.ntmps34
          go_wp2_with fail
          go_loopw [6, 5] (fun i c wr => ∃ (k : Nat) (m : Int), i = .int .i64 k ∧ c = .int .i64 m ∧ 1 ≤ k ∧ k ≤ s.size ∧ Hid (digD (((strB s).drop 1).take (k - 1)) = true) ∧ Hid ((m ≤ 2147483647 ∧ m = valD (((strB s).drop 1).take (k - 1)) 0) ∨ (2147483647 < m ∧ 2147483647 < valD (((strB s).drop 1).take (k - 1)) 0)) ∧ 0 ≤ m ∧ m ≤ 21474836479 ∧ wr = w) (fun i _ _ => s.size - (intOf i).toNat)
          case atStart => exact ⟨1, 0, rfl, rfl, by omega, by omega, Lib.hid (by simp [digD]), Lib.hid (.inl ⟨by omega, by simp [valD]⟩), by omega, by omega, rfl⟩
          case round =>
            obtain ⟨k, m, rfl, rfl, hak, hk, hdg, hrelv, hm0, hm1, rfl⟩ := hrel
            by_cases hks : k < s.size
            · have hks' : (k : Int) < (s.size : Int) := by omega
              have hsn := part_snoc s 1 k hks hak
              have hbl := (s[k]'hks).toNat_lt
              have hd := fun w => rdigit_any (((s[k]'hks).toNat : Nat) : Int) w ⟨by omega, by omega⟩
              have hw : wrap64 (((s[k]'hks).toNat : Nat) : Int) = (s[k]'hks).toNat := by unfold wrap64; omega
              have HD : Hid (digD (((strB s).drop 1).take (k + 1 - 1)) = digitB (((s[k]'hks).toNat : Nat) : Int)) := Lib.hid (by have := hdg.out; unfold digD at this ⊢; rw [hsn, List.all_append, this]; simp)
              have HV : Hid (valD (((strB s).drop 1).take (k + 1 - 1)) 0 = valD (((strB s).drop 1).take (k - 1)) 0 * 10 + ((((s[k]'hks).toNat : Nat) : Int) - 48)) := Lib.hid (by rw [hsn, valD_snoc])
              have hge : 0 ≤ valD (((strB s).drop 1).take (k - 1)) 0 := valD_ge _ 0 (by omega) (fun b hb => by have := hdg.out; unfold digD at this; exact List.all_eq_true.1 this b hb)
              have HF : Hid (digitB (((s[k]'hks).toNat : Nat) : Int) = false → digD ((strB s).drop 1) = false) := Lib.hid (fun h => by
                unfold digD
                rw [List.all_eq_false]
                refine ⟨s[k]'hks, ?_, by rw [h]; decide⟩
                have e := hsn
                have hmem : s[k]'hks ∈ ((strB s).drop 1).take (k + 1 - 1) := by rw [e]; simp
                exact List.mem_of_mem_take hmem)
              have hdd : digitB (((s[k]'hks).toNat : Nat) : Int) = true → 48 ≤ (((s[k]'hks).toNat : Nat) : Int) ∧ (((s[k]'hks).toNat : Nat) : Int) ≤ 57 := fun h => by unfold digitB at h; rwa [decide_eq_true_iff] at h
              have HDD := Lib.hid hdd
              have HG := Lib.hid hge
              clear hsn hdg hdd hge
              generalize valD (((strB s).drop 1).take (k - 1)) 0 = v0 at *
              generalize digitB (((s[k]'hks).toNat : Nat) : Int) = r at *
              generalize hx : (((s[k]'hks).toNat : Nat) : Int) = x at *
              cases r
              · have hK : wholeK s = (0, 10) := by unfold wholeK; rw [HNB.out, HF.out rfl]; rfl
                go_wp2_with (go_at_call 61; refine (hd _).mono ?_; rintro e wq ⟨rfl, hwq⟩; replace hwq := hwq.symm; subst hwq)
                go_ret2
                exact ⟨by first | rfl | (rw [hK]; rfl), rfl⟩
              · obtain ⟨x1, x2⟩ := HDD.out rfl
                by_cases hmM : m ≤ 2147483647
                · go_wp2_with (go_at_call 61; refine (hd _).mono ?_; rintro e wq ⟨rfl, hwq⟩; replace hwq := hwq.symm; subst hwq)
                  go_roundw
                  case rel => exact ⟨k + 1, 10 * m + x - 48, by go_num, by go_num, by omega, by omega, HD, Lib.hid (by have := HV.out; have := hrelv.out; omega), by omega, by omega, by first | rfl | trivial⟩
                  case measure => simp [intOf]; omega
                · go_wp2_with (go_at_call 61; refine (hd _).mono ?_; rintro e wq ⟨rfl, hwq⟩; replace hwq := hwq.symm; subst hwq)
                  go_roundw
                  case rel => exact ⟨k + 1, m, by go_num, by go_num, by omega, by omega, HD, Lib.hid (by have := HV.out; have := hrelv.out; have := HG.out; omega), by omega, by omega, by first | rfl | trivial⟩
                  case measure => simp [intOf]; omega
            · have hke : k = s.size := by omega
              have hfull : ((strB s).drop 1).take (k - 1) = (strB s).drop 1 := List.take_of_length_le (by rw [List.length_drop, strB_len]; omega)
              rw [hfull] at hdg hrelv
              have hN : numB s = true := by rw [HNB.out, hdg.out, Bool.true_and]; exact decide_eq_true hpos
              have hrv := hrelv.out
              have hvs := HVS.out
              clear hrelv hdg
              by_cases hmM : 2147483647 < m
              · have hK : wholeK s = (0, 3) := by unfold wholeK; rw [hN, if_neg (by decide), if_neg (by rw [hvs]; omega)]
                clear hrv hvs
                go_wp2
                go_ret2
                exact ⟨by first | rfl | (rw [hK]; rfl), rfl⟩
              · have hmv : m = valD ((strB s).drop 1) 0 := by omega
                have hK : wholeK s = (m, 0) := by unfold wholeK; rw [hN, if_neg (by decide), if_pos (by rw [hvs]; omega), hvs, ← hmv]
                clear hrv hvs hmv
                go_wp2
                go_ret2
                exact ⟨by first | rfl | (rw [hK]; rfl), rfl⟩
        · have hK : wholeK s = (0, 10) := by unfold wholeK; rw [HNB.out, decide_eq_false hpos, Bool.and_false]; rfl
          have hz1 : s.size = 1 := by omega
          have hz2 : ((s.size : Nat) : Int) = 1 := by omega
          have hp2 : ((1 : Int) == (s.size : Int)) = true := beq_iff_eq.2 (by omega)
          clear hsg h43
          go_enter Tryz.func34, Tryz.ntmps34
          go_wp2
          go_ret2
          exact ⟨by first | rfl | (rw [hK]; rfl), rfl⟩
      · have hsg : signedB s = false := by unfold signedB; rw [first_of s h1, first_of s h1, decide_eq_false h45, decide_eq_false h43]; rfl
        have HVS : Hid (valS s = valD ((strB s).drop 0) 0) := Lib.hid (by unfold valS; rw [first_of s h1, first_of s h1, if_neg (by simpa using h45), if_neg (by simpa using h43)]; rfl)
        have HNB := Lib.hid (numB_plain hsg)
        have q0 : ((((s[0]'h1).toNat : Nat) : Int) == 45) = false := beq_eq_false_iff_ne.2 fun e => h45 (UInt8.toNat_inj.1 (by have : (45 : UInt8).toNat = 45 := rfl; omega))
        have q1 : ((((s[0]'h1).toNat : Nat) : Int) == 43) = false := beq_eq_false_iff_ne.2 fun e => h43 (UInt8.toNat_inj.1 (by have : (43 : UInt8).toNat = 43 := rfl; omega))
        have hpos : 0 < s.size := h1
        have hp2 : ((0 : Int) == (s.size : Int)) = false := beq_eq_false_iff_ne.2 (by omega)
        clear hsg h45 h43
        go_enter Tryz.func34, Tryz.ntmps34
        go_wp2_with fail
        go_loopw [6, 5] (fun i c wr => ∃ (k : Nat) (m : Int), i = .int .i64 k ∧ c = .int .i64 m ∧ 0 ≤ k ∧ k ≤ s.size ∧ Hid (digD (((strB s).drop 0).take (k - 0)) = true) ∧ Hid ((m ≤ 2147483647 ∧ m = valD (((strB s).drop 0).take (k - 0)) 0) ∨ (2147483647 < m ∧ 2147483647 < valD (((strB s).drop 0).take (k - 0)) 0)) ∧ 0 ≤ m ∧ m ≤ 21474836479 ∧ wr = w) (fun i _ _ => s.size - (intOf i).toNat)
        case atStart => exact ⟨0, 0, rfl, rfl, by omega, by omega, Lib.hid (by simp [digD]), Lib.hid (.inl ⟨by omega, by simp [valD]⟩), by omega, by omega, rfl⟩
        case round =>
          obtain ⟨k, m, rfl, rfl, hak, hk, hdg, hrelv, hm0, hm1, rfl⟩ := hrel
          by_cases hks : k < s.size
          · have hks' : (k : Int) < (s.size : Int) := by omega
            have hsn := part_snoc s 0 k hks hak
            have hbl := (s[k]'hks).toNat_lt
            have hd := fun w => rdigit_any (((s[k]'hks).toNat : Nat) : Int) w ⟨by omega, by omega⟩
            have hw : wrap64 (((s[k]'hks).toNat : Nat) : Int) = (s[k]'hks).toNat := by unfold wrap64; omega
            have HD : Hid (digD (((strB s).drop 0).take (k + 1 - 0)) = digitB (((s[k]'hks).toNat : Nat) : Int)) := Lib.hid (by have := hdg.out; unfold digD at this ⊢; rw [hsn, List.all_append, this]; simp)
            have HV : Hid (valD (((strB s).drop 0).take (k + 1 - 0)) 0 = valD (((strB s).drop 0).take (k - 0)) 0 * 10 + ((((s[k]'hks).toNat : Nat) : Int) - 48)) := Lib.hid (by rw [hsn, valD_snoc])
            have hge : 0 ≤ valD (((strB s).drop 0).take (k - 0)) 0 := valD_ge _ 0 (by omega) (fun b hb => by have := hdg.out; unfold digD at this; exact List.all_eq_true.1 this b hb)
            have HF : Hid (digitB (((s[k]'hks).toNat : Nat) : Int) = false → digD ((strB s).drop 0) = false) := Lib.hid (fun h => by
              unfold digD
              rw [List.all_eq_false]
              refine ⟨s[k]'hks, ?_, by rw [h]; decide⟩
              have e := hsn
              have hmem : s[k]'hks ∈ ((strB s).drop 0).take (k + 1 - 0) := by rw [e]; simp
              exact List.mem_of_mem_take hmem)
            have hdd : digitB (((s[k]'hks).toNat : Nat) : Int) = true → 48 ≤ (((s[k]'hks).toNat : Nat) : Int) ∧ (((s[k]'hks).toNat : Nat) : Int) ≤ 57 := fun h => by unfold digitB at h; rwa [decide_eq_true_iff] at h
            have HDD := Lib.hid hdd
            have HG := Lib.hid hge
            clear hsn hdg hdd hge
            generalize valD (((strB s).drop 0).take (k - 0)) 0 = v0 at *
            generalize digitB (((s[k]'hks).toNat : Nat) : Int) = r at *
            generalize hx : (((s[k]'hks).toNat : Nat) : Int) = x at *
            cases r
            · have hK : wholeK s = (0, 10) := by unfold wholeK; rw [HNB.out, HF.out rfl]; rfl
              go_wp2_with (go_at_call 61; refine (hd _).mono ?_; rintro e wq ⟨rfl, hwq⟩; replace hwq := hwq.symm; subst hwq)
              go_ret2
              exact ⟨by first | rfl | (rw [hK]; rfl), rfl⟩
            · obtain ⟨x1, x2⟩ := HDD.out rfl
              by_cases hmM : m ≤ 2147483647
              · go_wp2_with (go_at_call 61; refine (hd _).mono ?_; rintro e wq ⟨rfl, hwq⟩; replace hwq := hwq.symm; subst hwq)
                go_roundw
                case rel => exact ⟨k + 1, 10 * m + x - 48, by go_num, by go_num, by omega, by omega, HD, Lib.hid (by have := HV.out; have := hrelv.out; omega), by omega, by omega, by first | rfl | trivial⟩
                case measure => simp [intOf]; omega
              · go_wp2_with (go_at_call 61; refine (hd _).mono ?_; rintro e wq ⟨rfl, hwq⟩; replace hwq := hwq.symm; subst hwq)
                go_roundw
                case rel => exact ⟨k + 1, m, by go_num, by go_num, by omega, by omega, HD, Lib.hid (by have := HV.out; have := hrelv.out; have := HG.out; omega), by omega, by omega, by first | rfl | trivial⟩
                case measure => simp [intOf]; omega
          · have hke : k = s.size := by omega
            have hfull : ((strB s).drop 0).take (k - 0) = (strB s).drop 0 := List.take_of_length_le (by rw [List.length_drop, strB_len]; omega)
            rw [hfull] at hdg hrelv
            have hN : numB s = true := by rw [HNB.out, hdg.out, Bool.true_and]; exact decide_eq_true hpos
            have hrv := hrelv.out
            have hvs := HVS.out
            clear hrelv hdg
            by_cases hmM : 2147483647 < m
            · have hK : wholeK s = (0, 3) := by unfold wholeK; rw [hN, if_neg (by decide), if_neg (by rw [hvs]; omega)]
              clear hrv hvs
              go_wp2
              go_ret2
              exact ⟨by first | rfl | (rw [hK]; rfl), rfl⟩
            · have hmv : m = valD ((strB s).drop 0) 0 := by omega
              have hK : wholeK s = (m, 0) := by unfold wholeK; rw [hN, if_neg (by decide), if_pos (by rw [hvs]; omega), hvs, ← hmv]
              clear hrv hvs hmv
              go_wp2
              go_ret2
              exact ⟨by first | rfl | (rw [hK]; rfl), rfl⟩
  · have hz : s.size = 0 := by omega
    have hN : numB s = false := by
      have hsg : signedB s = false := by
        rcases hq : signedB s with _ | _
        · rfl
        · have := signedB_pos hq; omega
      rw [numB_plain hsg, decide_eq_false h1, Bool.and_false]
    have hK : wholeK s = (0, 10) := by unfold wholeK; rw [hN]; rfl
    have hz2 : ((s.size : Nat) : Int) = 0 := by omega
    go_enter Tryz.func34, Tryz.ntmps34
    go_wp2
    go_ret2
    exact ⟨by first | rfl | (rw [hK]; rfl), rfl⟩

theorem kind_nil (w : World) : Calls Tryz.prog 17 #[.nilIface] w (Tells (.int .i64 0) w) := by
  go_enter Tryz.func17, Tryz.ntmps17
  go_wp2
  go_ret
  exact ⟨rfl, rfl⟩

/-- What a row's list gives of strconv.ErrRange, where it stands fourth among the plain ones. -/
theorem hasERv_4 {W : World} {a b c : String × DataW Unit} {text : List UInt8} {r : List (String × DataW Unit)}
    (h : laidMet Tryz.prog (a :: b :: c :: ("strconv.ErrRange", .iface "*errors.errorString" (.ptr (.agg [.lit (.string text)]))) :: r) W) : HasERv W := by
  obtain ⟨a1, s1, hv1, _, _, _⟩ := laid_sentinel (laidMet_tail (laidMet_tail (laidMet_tail h))) Tryz.gER Tryz.gERType Tryz.underlying35 Tryz.rowES Tryz.underlying174 Tryz.underlying176 rfl rfl Tryz.underlying9 Tryz.cellsES Tryz.cellsStr
  exact ⟨a1, hv1, by simpa using World.var?_cell Tryz.gER hv1 0⟩
end

section
open Go.RowKit Go.Shelf
set_option linter.unusedVariables false
set_option linter.unusedSimpArgs false

/-- What is told of a row that was found, or not: A, B, how many, and the error's kind. -/
def parseK (F : (ByteArray × ByteArray × Nat) × Bool) : (Int × Int × Nat) × Int :=
  if F.2 = false then ((0, 0, 0), 10)
  else if (wholeK F.1.1).2 ≠ 0 ∨ (wholeK F.1.2.1).2 ≠ 0 then ((0, 0, 0), 3)
  else (((wholeK F.1.1).1, (wholeK F.1.2.1).1, F.1.2.2), 0)
def ParseP (r : (Int × Int × Nat) × Int) (w : World) (q : Ending) (w' : World) : Prop :=
  Below w.heap.size w w' ∧ ((r.2 = 0 ∧ q = .returned (.tuple #[.int .i64 r.1.1, .int .i64 r.1.2.1, .int .i64 (r.1.2.2 : Nat), .nilIface])) ∨
    (r.1 = (0, 0, 0) ∧ r.2 ≠ 0 ∧ ∃ e, w.heap.size ≤ e ∧ q = .returned (.tuple #[.int .i64 0, .int .i64 0, .int .i64 0, fltV e]) ∧ Blk w' e [.int .i64 r.2, .int .i64 0, .nilIface] 69))
theorem wholeK_two {s : ByteArray} (h : numB s = true) : (wholeK s).2 = 0 ∨ (wholeK s).2 = 3 := by
  unfold wholeK
  rw [h, if_neg (by decide)]
  split
  · exact .inl rfl
  · exact .inr rfl
theorem HasERv.later {w w' : World} (h : HasERv w) (hb : Below w.heap.size w w') : HasERv w' := by
  obtain ⟨p, h0, hc⟩ := h
  have hlt : 0 < w.heap.size := World.block_lt_of_cell? w _ hc
  refine ⟨p, ?_, (hb.cell (p := ⟨0, 0, none⟩) hlt).trans hc⟩
  unfold World.var? at h0 ⊢
  rw [Tryz.gER] at h0 ⊢
  simpa [hb.block _ hlt] using h0
theorem HasERv.lt {w : World} (h : HasERv w) : 0 < w.heap.size := by obtain ⟨p, _, hc⟩ := h; exact World.block_lt_of_cell? w _ hc

set_option maxRecDepth 100000 in
set_option maxHeartbeats 4000000 in
theorem Parse_any (ts : List Tk) (n cap : Nat) (a : Option Addr) (w : World) (h : ReadsT w a cap ts) (hn : ts.length = n) (hsm : n ≤ 1000000) (hS : ShortT ts) (hE : HasERv w) :
    Calls Tryz.prog 15 #[.slice a n cap] w (ParseP (parseK (findP ts)) w) := by
  have fF := find_any ts n cap a w h hn hsm hS
  have hN := fun hb => findP_num (ts := ts) hS hb
  have HEV : Hid (∀ w' : World, Below w.heap.size w w' → HasERv w') := Lib.hid (fun w' hb => hE.later hb)
  clear h hS hE
  generalize findP ts = F at *
  obtain ⟨⟨A, B, u⟩, ok⟩ := F
  unfold rowV at fF
  dsimp only at fF hN
  rcases ok with _ | _
  · have hK : parseK ((A, B, u), false) = ((0, 0, 0), 10) := by unfold parseK; rw [if_pos rfl]
    rw [hK]
    clear hN hK
    go_enter Tryz.func15, Tryz.ntmps15
    go_wp2_with fail
    refine fF.mono ?_
    rintro e w1 ⟨rfl, hb1⟩
    have hbA := hb1.alloc hb1.size (.cells [.string A, .string B, .int .i64 u].toArray 52)
    go_wp2_with fail
    refine (fail_any 10 0 _).mono ?_
    rintro e w3 ⟨rfl, rfl⟩
    go_wp2
    refine bodyPost_ret (v := .tuple #[.int .i64 0, .int .i64 0, .int .i64 0, fltV (w1.alloc (.cells [.string A, .string B, .int .i64 u].toArray 52)).heap.size]) (by simp [results, Tryz.results15, go_sem]) rfl ?_
    exact ⟨hbA.alloc hbA.size _, .inr ⟨rfl, by decide, _, hbA.size, rfl, Blk.alloc _ _⟩⟩
  obtain ⟨⟨hA, hAz⟩, hB, hBz⟩ := hN rfl
  have hA2 := wholeK_two hA
  have hB2 := wholeK_two hB
  have fA := fun w' hb => wholeAll_any A w' (HEV.out w' hb) (by omega)
  have fB := fun w' hb => wholeAll_any B w' (HEV.out w' hb) (by omega)
  have hK : Hid (parseK ((A, B, u), true) = if (wholeK A).2 ≠ 0 ∨ (wholeK B).2 ≠ 0 then ((0, 0, 0), 3) else (((wholeK A).1, (wholeK B).1, u), 0)) := Lib.hid (by unfold parseK; rw [if_neg (by simp)])
  clear hN hA hB hAz hBz
  generalize parseK ((A, B, u), true) = R at *
  generalize wholeK A = KA at *
  generalize wholeK B = KB at *
  obtain ⟨va, ka⟩ := KA
  obtain ⟨vb, kb⟩ := KB
  have HA2 := Lib.hid hA2
  have HB2 := Lib.hid hB2
  clear hA2 hB2
  go_enter Tryz.func15, Tryz.ntmps15
  go_wp2_with fail
  refine fF.mono ?_
  rintro e w1 ⟨rfl, hb1⟩
  have hbA := hb1.alloc hb1.size (.cells [.string A, .string B, .int .i64 u].toArray 52)
  have BA : Blk (w1.alloc (.cells [.string A, .string B, .int .i64 u].toArray 52)) w1.heap.size [.string A, .string B, .int .i64 u] 52 := Blk.alloc _ _
  have hzA : (w1.alloc (.cells [.string A, .string B, .int .i64 u].toArray 52)).heap.size = w1.heap.size + 1 := by simp
  go_wp2_with fail
  refine (fA _ hbA).mono ?_
  rintro q w2 ⟨hb2, hqa⟩
  have B2 := BA.later hb2 (by omega)
  have hbw2 := hbA.trans (hb2.mono (by have := hb1.size; omega))
  have c1 := B2.cell 1 _ rfl
  have fB2 := fB w2 hbw2
  clear BA fA fB fF
  rcases hqa with ⟨hka, rfl⟩ | ⟨hva, hka, ea, hea, rfl, hFA⟩
  · have hka' : ka = 0 := hka
    subst hka'
    go_wp2_with fail
    refine fB2.mono ?_
    rintro q w3 ⟨hb3, hqb⟩
    have B3 := B2.later hb3 B2.lt
    have hbw3 := hbw2.trans (hb3.mono hbw2.size)
    have c2 := B3.cell 2 _ rfl
    have hi := fun w => is_nil_any 56 (.int .i64 3) w
    clear c1 B2 fB2
    rcases hqb with ⟨hkb, rfl⟩ | ⟨hvb, hkb, eb, heb, rfl, hFB⟩
    · have hkb' : kb = 0 := hkb
      subst hkb'
      have hR : R = ((va, vb, u), 0) := by rw [hK.out, if_neg (by simp)]
      go_wp2_with (go_at_call 32; refine (hi _).mono ?_; rintro e wq ⟨rfl, hwq⟩; replace hwq := hwq.symm; subst hwq)
      go_quiet (fail)
      go_wp2
      refine bodyPost_ret (v := .tuple #[.int .i64 va, .int .i64 vb, .int .i64 u, .nilIface]) (by simp [results, Tryz.results15, go_sem]) rfl ⟨below_drewN hbw3 _, .inl ⟨by rw [hR], by rw [hR]⟩⟩
    · have hkb' : kb = 3 := by have := HB2.out; dsimp only at this hkb; omega
      subst hkb'
      have hR : R = ((0, 0, 0), 3) := by rw [hK.out, if_pos (.inr (by show (3 : Int) ≠ 0; decide))]
      have hF2 := Is_of eb 3 true w3 (is1_yes eb 3 0 .nilIface w3 hFB)
      unfold kndV at hF2
      go_wp2_with (go_at_call 32; first | ((with_reducible refine (hi _).mono ?_); rintro e wq ⟨rfl, hwq⟩; replace hwq := hwq.symm; subst hwq) | ((with_reducible refine hF2.mono ?_); rintro e wq ⟨rfl, hwq⟩; replace hwq := hwq.symm; subst hwq))
      refine (fail_any 3 0 _).mono ?_
      rintro e w4 ⟨rfl, rfl⟩
      go_wp2
      refine bodyPost_ret (v := .tuple #[.int .i64 0, .int .i64 0, .int .i64 0, fltV (w3).heap.size]) (by simp [results, Tryz.results15, go_sem]) rfl ?_
      exact ⟨hbw3.alloc hbw3.size _, .inr ⟨by rw [hR], by rw [hR]; decide, _, hbw3.size, rfl, by rw [hR]; exact Blk.alloc _ _⟩⟩
  · have hka' : ka = 3 := by have := HA2.out; dsimp only at this hka; omega
    subst hka'
    have hR : R = ((0, 0, 0), 3) := by rw [hK.out, if_pos (.inl (by show (3 : Int) ≠ 0; decide))]
    go_wp2_with fail
    refine fB2.mono ?_
    rintro q w3 ⟨hb3, hqb⟩
    have hbw3 := hbw2.trans (hb3.mono hbw2.size)
    have hF3 := hFA.later hb3 hFA.lt
    have hF2 := Is_of ea 3 true w3 (is1_yes ea 3 0 .nilIface w3 hF3)
    unfold kndV at hF2
    clear fB2 c1 B2
    rcases hqb with ⟨hkb, rfl⟩ | ⟨hvb, hkb, eb, heb, rfl, hFB⟩
    all_goals
      go_wp2_with (go_at_call 32; ((with_reducible refine hF2.mono ?_); rintro e wq ⟨rfl, hwq⟩; replace hwq := hwq.symm; subst hwq))
      refine (fail_any 3 0 _).mono ?_
      rintro e w4 ⟨rfl, rfl⟩
      go_wp2
      refine bodyPost_ret (v := .tuple #[.int .i64 0, .int .i64 0, .int .i64 0, fltV (w3).heap.size]) (by simp [results, Tryz.results15, go_sem]) rfl ?_
      exact ⟨hbw3.alloc hbw3.size _, .inr ⟨by rw [hR], by rw [hR]; decide, _, hbw3.size, rfl, by rw [hR]; exact Blk.alloc _ _⟩⟩
end
end Go.Proofs.YtickcbmfboajiaaGreatDoor
