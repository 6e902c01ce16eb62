/- Which of some conditions hold: both sides' lists: walks. -/
import Derived.Test.YtpccakalkcgdeaaDoorVa0
namespace Go.Proofs.YtpccakalkcgdeaaDoor
open Go.RowKit Go.Deep

/-- What the i-th condition says. -/
def saysAt (F : Int → ByteArray → Bool → Bool) (xs : List (Int × ByteArray × Bool)) (i : Nat) : Bool := match xs[i]? with | some x => F x.1 x.2.1 x.2.2 | none => false
/-- A new row of truths. -/
def ToldRow (f : Nat → Bool) (n : Nat) (w : World) (e : Ending) (w' : World) : Prop := ∃ a cap, e = .returned (.slice a n cap) ∧ RdB w' a n cap f ∧ Below w.heap.size w w'

set_option maxRecDepth 100000 in
set_option maxHeartbeats 2000000 in
theorem all_of (L : World → Prop) (F : Int → ByteArray → Bool → Bool) (v : ByteArray) (hLater : ∀ w w' : World, L w → Below w.heap.size w w' → L w')
    (hH : ∀ op t fold w, t.size ≤ 1000 → L w → Calls Tryd.prog 21 #[.agg #[.int .i64 op, .string t, .bool fold], .string v] w (Told (.bool (F op t fold)) w))
    (a : Option Addr) (n cap : Nat) (xs : List (Int × ByteArray × Bool)) (hn : xs.length = n) (hn2 : n ≤ 60) (ht : ∀ x ∈ xs, x.2.1.size ≤ 1000) (w : World) (hr : RdC w a xs) (hL : L w) :
    Calls Tryd.prog 24 #[.slice a n cap, .string v] w (ToldRow (saysAt F xs) n w) := by
  have HR := Lib.hid hr
  have HL := Lib.hid hL
  have HT := Lib.hid ht
  have HN := Lib.hid hn
  have HLt := Lib.hid hLater
  have HH := Lib.hid hH
  obtain ⟨inf, hinf, hzz⟩ := Option.map_eq_some_iff.1 TrydinfoBool
  simp only [Prod.mk.injEq] at hzz
  obtain ⟨hz, hsz, hby⟩ := hzz
  have hmk : (Instr.makeSlice 37 (.int .i64 (n : Int)) (.int .i64 (n : Int))).run Tryd.prog w = .ok (.slice (some ⟨w.heap.size, 0, none⟩) n n) (w.alloc (.cells (fillR (saysAt F xs) 0 n).toArray 4)) := by
    rw [run_make w 37 4 inf (.bool false) Tryd.underlying37 hinf hz .i64 .i64 n n (by omega) (Int.le_refl _) (by rw [hby]; omega) (by omega)]
    rw [hsz, fillR_zero, ← toList_madeCells_one]
    simp [Value.cells]
  clear hz hsz hby hinf
  have hB0 : Blk (w.alloc (.cells (fillR (saysAt F xs) 0 n).toArray 4)) w.heap.size (fillR (saysAt F xs) 0 n) 4 := heap_alloc_new w _
  have HB0 := Lib.hid hB0
  clear hr hL ht hn hLater hH hB0
  go_enter Tryd.func24, Tryd.ntmps24
  go_wp2
  go_loopw [6, 7, 13] (fun _ _ i wr => ∃ k : Nat, k ≤ n ∧ i = .int .i64 k ∧ Blk wr w.heap.size (fillR (saysAt F xs) k n) 4 ∧ Below w.heap.size w wr) (fun _ _ i _ => n - (intOf i).toNat)
  case atStart => exact ⟨0, by omega, rfl, HB0.out, (Below.refl _ w).alloc (Nat.le_refl _) _⟩
  case round =>
    obtain ⟨k, hk, rfl, hB, hbl⟩ := hrel
    by_cases hlt : k < n
    · obtain ⟨⟨op, t, fold⟩, hx⟩ : ∃ x, xs[k]? = some x := ⟨_, List.getElem?_eq_getElem (by rw [HN.out]; exact hlt)⟩
      obtain ⟨b, off, rfl, c0, c1, c2⟩ := rdC_at (HR.out.later hbl) k _ hx
      have hf : saysAt F xs k = F op t fold := by unfold saysAt; rw [hx]
      have ht := HT.out _ (List.mem_of_getElem? hx)
      dsimp only at c0 c1 c2 ht
      have hA : Below w.heap.size w (wr.alloc (.cells #[.int .i64 op, .string t, .bool fold] 34)) := hbl.alloc hbl.size _
      go_wp2_with fail
      refine (HH.out op t fold _ ht (HLt.out _ _ HL.out hA)).mono ?_
      rintro e w2 ⟨rfl, hb2⟩
      have hbl2 := hA.trans (hb2.mono hA.size)
      have hB2 := (hB.alloc_old (.cells #[.int .i64 op, .string t, .bool fold] 34)).later hb2 (Nat.lt_of_lt_of_le hB.lt (by simp))
      have hck := hB2.cell k _ (fillR_at _ k n k hlt)
      have hfk := hB2.frozen k
      have hkI : (0 : Int) ≤ (k : Int) := by omega
      have hkI2 : (k : Int) < (n : Int) := by omega
      have hB3 := hB2.setCell k (.bool (F op t fold))
      rw [← hf, fillR_set] at hB3
      have HB3 := Lib.hid hB3
      have hbl3 := Lib.hid (hbl2.setCell (p := ⟨w.heap.size, k, none⟩) (Nat.le_refl _) (.bool (saysAt F xs k)))
      rw [← hf]
      clear hB3 hB2 hB hb2 hbl hf
      go_wp2
      go_roundw
      case rel => exact ⟨k + 1, by omega, by go_num, HB3.out, hbl3.out⟩
      case measure => simp [intOf]; omega
    · obtain rfl : k = n := by omega
      have HB := Lib.hid hB
      clear hB
      go_wp2
      go_ret
      refine ⟨_, _, rfl, ⟨Nat.le_refl _, by unfold maxLen; omega, .inr ⟨_, 0, rfl, HB.out.lt, fun i hi => ?_⟩⟩, hbl⟩
      rw [Nat.zero_add, HB.out.cell i _ (fillR_at _ k k i hi), if_pos hi]

set_option maxRecDepth 100000 in
set_option maxHeartbeats 2000000 in
theorem rall_of (F : Int → ByteArray → Bool → Bool) (v : ByteArray)
    (hH : ∀ op t fold w, t.size ≤ 1000 → Calls Tryd.prog 22 #[.agg #[.int .i64 op, .string t, .bool fold], .string v] w (Told (.bool (F op t fold)) w))
    (a : Option Addr) (n cap : Nat) (xs : List (Int × ByteArray × Bool)) (hn : xs.length = n) (hn2 : n ≤ 60) (ht : ∀ x ∈ xs, x.2.1.size ≤ 1000) (w : World) (hr : RdC w a xs) :
    Calls Tryd.prog 25 #[.slice a n cap, .string v] w (ToldRow (saysAt F xs) n w) := by
  have HR := Lib.hid hr
  have HT := Lib.hid ht
  have HN := Lib.hid hn
  have HH := Lib.hid hH
  have own0 := Lib.hid (World.ownsRow_made (base := w.heap.size) (e := 4) (size := 1) w #[] 0 (Nat.le_refl _) (by simp [maxLen]) (by simp))
  clear hr ht hn hH
  go_enter Tryd.func25, Tryd.ntmps25
  go_wp2
  go_loopw [5, 6] (fun v i wr => ∃ k : Nat, k ≤ n ∧ i = .int .i64 k ∧ wr.ownsRow w.heap.size 4 1 v k ((rowOf (fun j => saysAt F xs (j - 1)) k).map Value.bool) ∧ Below w.heap.size w wr) (fun _ i _ => n - (intOf i).toNat)
  case atStart => exact ⟨0, by omega, rfl, own0.out, (Below.refl _ w).alloc (Nat.le_refl _) _⟩
  case round =>
    obtain ⟨k, hk, rfl, hown, hbl⟩ := hrel
    clear own0
    by_cases hlt : k < n
    · obtain ⟨⟨op, t, fold⟩, hx⟩ : ∃ x, xs[k]? = some x := ⟨_, List.getElem?_eq_getElem (by rw [HN.out]; exact hlt)⟩
      obtain ⟨b, off, rfl, c0, c1, c2⟩ := rdC_at (HR.out.later hbl) k _ hx
      have hf : saysAt F xs k = F op t fold := by unfold saysAt; rw [hx]
      have ht := HT.out _ (List.mem_of_getElem? hx)
      dsimp only at c0 c1 c2 ht
      obtain ⟨av, cv, rfl⟩ : ∃ av cv, _ = Value.slice av k cv := by
        obtain ⟨x, y, hxy, _⟩ := RdB.of_owns hown
        exact ⟨x, y, hxy⟩
      have HO := Lib.hid hown
      clear hown
      have hkI : (0 : Int) ≤ (k : Int) := by omega
      have hkI2 : (k : Int) < (n : Int) := by omega
      go_wp2_with fail
      refine (HH.out op t fold _ ht).mono ?_
      rintro e w2 ⟨rfl, hb2⟩
      have hbl2 := hbl.trans (hb2.mono hbl.size)
      have HO2 := Lib.hid (owns_later HO.out hb2)
      rw [← hf]
      have HK := Lib.hid (show saysAt F xs k = (fun j => saysAt F xs (j - 1)) (k + 1) from rfl)
      have hs2 := hbl2.size
      clear HO hf c0 c1 c2
      generalize hq : saysAt F xs k = q at *
      go_wp2_with (at_builtin; refine wpList_append_bool rfl _ _ 37 rfl w.heap.size 4 Tryd.underlying37 TrydinfoBool _ k (fun j => saysAt F xs (j - 1)) rfl w2 _ rfl HO2.out rfl HK.out (by omega) hs2 ?_; intro v' w3 hown3 hgrow3)
      have hbl3 := (hbl2.alloc hbl2.size (.cells #[.bool q] 4)).grown hgrow3 (by simp; omega) (fun j hj => (HO2.out.lt j hj).1)
      go_roundw
      case rel => exact ⟨k + 1, by omega, by go_num, hown3, hbl3⟩
      case measure => simp [intOf]; omega
    · obtain rfl : k = n := by omega
      obtain ⟨av, cv, rfl, hr⟩ := RdB.of_owns hown
      have HRr := Lib.hid hr
      clear hown hr
      go_wp2
      go_ret
      exact ⟨av, cv, rfl, HRr.out, hbl⟩
end Go.Proofs.YtpccakalkcgdeaaDoor
