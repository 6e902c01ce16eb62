/- Decimal digits by the statements' own function; Whole at short texts: walks. -/
import Derived.Test.YticlkjkombgchaaGreatDoorAtoi
import Derived.Test.YticlkjkombgchaaGreatDoorR5
namespace Go.Proofs.YticlkjkombgchaaGreatDoor
open Go.RowKit

theorem valD_cons (b : UInt8) (ds : List UInt8) (acc : Int) : valD (b :: ds) acc = valD ds (acc * 10 + ((b.toNat : Int) - 48)) := rfl
theorem strB_append (a b : ByteArray) : strB (a ++ b) = strB a ++ strB b := by
  unfold strB
  rw [show (a ++ b).data = a.data ++ b.data from ByteArray.data_append, Array.toList_append]
theorem strB_one (x : Int) (_h0 : 0 ≤ x) (_h1 : x ≤ 255) : strB (strOfNums [x]) = [UInt8.ofNat x.toNat] := by
  unfold strB; rw [strOfNums_data]; rfl

/-- The digits of a number, as the statement writes them. -/
def Digs (s : ByteArray) (n : Int) : Prop := 0 < s.size ∧ s.size ≤ 10 ∧ bytesAll s = true ∧ valD (strB s) 0 = n

set_option maxRecDepth 100000 in
set_option maxHeartbeats 2000000 in
theorem digits_any (n : Nat) (w : World) (hn : n < 10000000000) : Calls Tryz.prog 28 #[.int .i64 n] w fun e w' => (∃ s, e = .returned (.string s) ∧ Digs s n) ∧ Below w.heap.size w w' := by
  have HN := Lib.hid hn; clear hn
  go_enter Tryz.func28, Tryz.ntmps28
  go_wp2_with fail
  go_loopw [0, 3] (fun c v wr => ∃ (q : Nat) (t : ByteArray), c = .int .i64 q ∧ v = .string t ∧ Hid (valD (strB t) q = (n : Int)) ∧ Hid (bytesAll t = true) ∧ Hid (q < 10 ^ (10 - t.size)) ∧ t.size ≤ 10 ∧ (t.size = 0 ∨ 0 < q) ∧ q < 10000000000 ∧ Below w.heap.size w wr)
    (fun c _ _ => (intOf c).toNat)
  case atStart => exact ⟨n, ByteArray.empty, rfl, rfl, Lib.hid rfl, Lib.hid rfl, Lib.hid HN.out, by decide, .inl rfl, HN.out, Below.refl _ _⟩
  case round =>
    obtain ⟨q, t, rfl, rfl, hv, ha, hp, hs, h0, hq, hbl⟩ := hrel
    have hs9 : t.size ≤ 9 := by
      rcases Nat.lt_or_ge t.size 10 with h | h
      · omega
      · have e : t.size = 10 := by omega
        have := hp.out
        rw [e] at this
        simp at this
        omega
    have hsz := hbl.size
    have cv : (convert 22 9 (.slice (some ⟨wr.heap.size, 0, none⟩) 1 1)).run Tryz.prog (wr.alloc (.cells #[.int .u8 (48 + (q : Int) % 10)] 5)) = .ok (.string (strOfNums [48 + (q : Int) % 10])) (wr.alloc (.cells #[.int .u8 (48 + (q : Int) % 10)] 5)) :=
      conv3_any _ 22 5 9 Tryz.underlying22 Tryz.underlying5 Tryz.underlying9 (some ⟨wr.heap.size, 0, none⟩) 1 1 [48 + (q : Int) % 10] rfl (reads_new wr .u8 [48 + (q : Int) % 10] 5 1 rfl (by unfold maxLen; omega))
    have hd := strB_one (48 + (q : Int) % 10) (by omega) (by omega)
    have hdz := strOfNums_size [48 + (q : Int) % 10]
    have HB : Hid (strB (strOfNums [48 + (q : Int) % 10]) = [UInt8.ofNat (48 + q % 10)]) := Lib.hid (by rw [hd]; congr 2)
    have hb4 := hbl.alloc hsz (.cells #[.int .u8 (48 + (q : Int) % 10)] 5)
    have hx : ((UInt8.ofNat (48 + q % 10)).toNat : Int) = 48 + (q : Int) % 10 := by rw [UInt8.toNat_ofNat']; omega
    have hval : Hid (valD (strB (strOfNums [48 + (q : Int) % 10] ++ t)) ((q / 10 : Nat) : Int) = (n : Int)) := Lib.hid (by
      rw [strB_append, HB.out, List.cons_append, List.nil_append, valD_cons, hx, ← hv.out]
      congr 1
      omega)
    have hall : Hid (bytesAll (strOfNums [48 + (q : Int) % 10] ++ t) = true) := Lib.hid (by
      have := ha.out
      unfold bytesAll at this ⊢
      rw [strB_append, HB.out, List.cons_append, List.nil_append, List.all_cons, this, Bool.and_true, hx]
      exact decide_eq_true (by omega))
    have hsize : (strOfNums [48 + (q : Int) % 10] ++ t).size = t.size + 1 := by rw [ByteArray.size_append, hdz]; simp; omega
    have hdl : ¬ 9223372036854775807 < (strOfNums [48 + (q : Int) % 10]).size + t.size := by rw [hdz]; simp; omega
    have HSZ := Lib.hid hsize
    clear hd hdz HB hx hv ha hsize
    generalize strOfNums [48 + (q : Int) % 10] = d at *
    by_cases hlast : q < 10
    · have e0 : ((q : Int) / 10 == 0) = true := beq_iff_eq.2 (by omega)
      have eq0 : q / 10 = 0 := by omega
      rw [eq0] at hval
      go_wp2
      go_ret
      exact ⟨⟨_, rfl, by rw [HSZ.out]; omega, by rw [HSZ.out]; omega, hall.out, hval.out⟩, hb4⟩
    · have e0 : ((q : Int) / 10 == 0) = false := beq_eq_false_iff_ne.2 (by omega)
      have hp2 : Hid (q / 10 < 10 ^ (10 - (t.size + 1))) := Lib.hid (by
        have h1 := hp.out
        have h2 : 10 - t.size = 10 - (t.size + 1) + 1 := by omega
        rw [h2, Nat.pow_succ] at h1
        omega)
      clear hp
      go_wp2
      go_roundw
      case rel => exact ⟨q / 10, d ++ t, by go_num, rfl, hval, hall, Lib.hid (by rw [HSZ.out]; exact hp2.out), by rw [HSZ.out]; omega, .inr (by omega), by omega, hb4⟩
      case measure => simp [intOf]; omega

theorem Digs.num {s : ByteArray} {n : Int} (h : Digs s n) : numB s = true ∧ signedB s = false ∧ valS s = n := by
  obtain ⟨h0, h1, ha, hv⟩ := h
  have hd : digitB ((s[0]'h0).toNat : Int) = true := by
    unfold bytesAll at ha
    exact List.all_eq_true.1 ha _ (List.mem_of_getElem? (first_get s h0))
  have n45 : s[0]'h0 ≠ 45 := fun e => by rw [e] at hd; exact absurd hd (by decide)
  have n43 : s[0]'h0 ≠ 43 := fun e => by rw [e] at hd; exact absurd hd (by decide)
  have hs : signedB s = false := by unfold signedB; rw [first_of s h0, first_of s h0, decide_eq_false n45, decide_eq_false n43]; rfl
  refine ⟨by unfold numB; rw [hs, if_neg (by decide), ha, decide_eq_true h0]; rfl, hs, ?_⟩
  unfold valS
  rw [first_of s h0, first_of s h0, if_neg (by simpa using n45), if_neg (by simpa using n43)]
  exact hv
theorem tailS_bytes (x : ByteArray) : strB (tailS x) = (strB x).drop 1 := by
  unfold tailS strB
  rw [ByteArray.data_extract, Array.toList_extract]
  show ((x.data.toList).drop 1).take (x.size - 1) = _
  rw [List.take_of_length_le (by rw [List.length_drop, Array.length_toList]; exact Nat.le_refl _)]
/-- .. with a sign, and noughts, ahead. -/
theorem Digs.signed {s z : ByteArray} {n : Int} (h : Digs s n) (c : UInt8) (hc : c = 43 ∨ c = 45) (zs : List UInt8) (hz : strB z = c :: zs) (hzs : ∀ b ∈ zs, b = 48) :
    numB (z ++ s) = true ∧ valS (z ++ s) = (if c = 45 then -n else n) := by
  obtain ⟨h0, h1, ha, hv⟩ := h
  have hB : strB (z ++ s) = c :: (zs ++ strB s) := by rw [strB_append, hz]; rfl
  have hsz : 0 < (z ++ s).size := by rw [ByteArray.size_append]; omega
  have hf : ∀ d : UInt8, firstB (z ++ s) d = decide (c = d) := fun d => by unfold firstB; rw [hB]; simp
  have htl : strB (tailS (z ++ s)) = zs ++ strB s := by rw [tailS_bytes, hB]; rfl
  have hts : (tailS (z ++ s)).size = (zs ++ strB s).length := by rw [← strB_len, htl]
  have hsg : signedB (z ++ s) = true := by unfold signedB; rw [hf, hf]; rcases hc with rfl | rfl <;> decide
  have hall : bytesAll (tailS (z ++ s)) = true := by
    unfold bytesAll
    rw [htl, List.all_append]
    unfold bytesAll at ha
    rw [ha, Bool.and_true, List.all_eq_true]
    intro b hb
    rw [hzs b hb]
    decide
  have hval : valD (strB (tailS (z ++ s))) 0 = n := by
    rw [htl]
    have : ∀ (l : List UInt8), (∀ b ∈ l, b = 48) → valD (l ++ strB s) 0 = valD (strB s) 0 := by
      intro l
      induction l with
      | nil => intro _; rfl
      | cons b l ih =>
        intro hl
        rw [List.cons_append, valD_cons, hl b (by simp)]
        exact ih fun x hx => hl x (by simp [hx])
    rw [this zs hzs, hv]
  refine ⟨?_, ?_⟩
  · unfold numB
    rw [hsg, if_pos rfl, hall, hts, Bool.true_and]
    exact decide_eq_true (by rw [List.length_append, strB_len]; omega)
  · unfold valS
    rw [hf, hf]
    rcases hc with rfl | rfl
    · rw [if_neg (by decide), if_pos (by decide), if_neg (by decide), hval]
    · rw [if_pos (by decide), if_pos rfl, hval]
end Go.Proofs.YticlkjkombgchaaGreatDoor
