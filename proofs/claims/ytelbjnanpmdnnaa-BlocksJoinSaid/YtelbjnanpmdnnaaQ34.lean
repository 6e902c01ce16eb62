/- Texts of mine in one: Atoi R5 Digits. -/
import Derived.Test.YtelbjnanpmdnnaaQ13
import Derived.Test.YtelbjnanpmdnnaaQ33
import Derived.Test.YtelbjnanpmdnnaaQ15
namespace Go.Proofs.Ytelbjnanpmdnnaa
section
open Go.RowKit
def valD (ds : List UInt8) (acc : Int) : Int := ds.foldl (fun n b => n * 10 + ((b.toNat : Int) - 48)) acc
def valS (s : ByteArray) : Int := if firstB s 45 then - valD (strB (tailS s)) 0 else if firstB s 43 then valD (strB (tailS s)) 0 else valD (strB s) 0
theorem first_get (s : ByteArray) (h1 : 0 < s.size) : (strB s)[0]? = some (s[0]'h1) := by
  unfold strB
  rw [Array.getElem?_toList]
  exact Array.getElem?_eq_getElem h1
theorem first_of (s : ByteArray) (h1 : 0 < s.size) (c : UInt8) : firstB s c = decide (s[0]'h1 = c) := by
  unfold firstB; rw [first_get s h1]; simp
end

section
open Go.RowKit
def zeroF (c : Int) : Int := if c = 0 then 65533 else c
theorem charOf_clean (c : Int) : charOf (zeroF c) = charOf (cleanF c) := by
  unfold zeroF cleanF
  by_cases h : c = 0
  · rw [if_pos h, if_pos h]
  · rw [if_neg h, if_neg h]
    unfold charOf
    by_cases hr : rightB c = true
    · rw [if_pos hr, if_pos hr]
    · rw [if_neg hr, if_pos (by decide)]
theorem bytesF_zero (zs : List Int) : textF (zs.map zeroF) = bytesF zs := by
  unfold bytesF textF
  rw [List.flatMap_map, List.flatMap_map]
  congr 1
  funext c
  rw [charOf_clean]
theorem map_snoc (f : Int → Int) (zs : List Int) (k : Nat) (h : k < zs.length) : (zs.take (k + 1)).map f = (zs.take k).map f ++ [f (zs[k]?.getD 0)] := by
  rw [List.take_add_one, List.getElem?_eq_getElem h, List.map_append]; rfl
set_option maxRecDepth 100000 in
set_option maxHeartbeats 2000000 in
theorem rtext_some (b off len cap : Nat) (zs : List Int) (w : World) (hlen : zs.length = len) (h1 : 1 ≤ len) (hl : len ≤ cap) (hcap : cap ≤ maxLen) (hat : At w .i64 b off zs) (hsm : len ≤ 100000) :
    Calls Try.prog 59 #[.slice (some ⟨b, off, none⟩) len cap] w (Told (.string (strOfNums (bytesF zs))) w) := by
  obtain ⟨i0, hi, hz0, hz1, hz2⟩ := info_parts Try.info3
  have hcap' : cap ≤ 9223372036854775807 := hcap
  have H0 := Lib.hid hlen; clear hlen hcap
  have own0 := World.ownsRow_made (base := w.heap.size) (e := 3) (size := 1) w #[] 0 (Nat.le_refl _) (by simp [maxLen]) (by simp)
  go_enter Try.func59, Try.ntmps59
  go_wp2
  go_loopw [3, 4] (fun v i wr => ∃ k : Nat, k ≤ len ∧ i = .int .i64 k ∧ wr.ownsRow w.heap.size 3 1 v k (((zs.take k).map zeroF).map (Value.int .i64)) ∧ Below w.heap.size w wr)
    (fun _ i _ => len - (intOf i).toNat)
  case atStart => exact ⟨0, by omega, rfl, own0, (Below.refl _ w).alloc (Nat.le_refl _) _⟩
  case round =>
    obtain ⟨k, hk, rfl, hown, hbl⟩ := hrel
    by_cases hlt : k < len
    · have hkz : k < zs.length := by rw [H0.out]; exact hlt
      have HT := Lib.hid (map_snoc zeroF zs k hkz)
      have hll : ((zs.take k).map zeroF).length = k := by rw [List.length_map, List.length_take]; omega
      have hc := (hat.later hbl hat.1).2 k hkz
      have hsz := hbl.size
      clear hkz
      generalize zs[k]?.getD 0 = c at hc HT
      generalize (zs.take k).map zeroF = acc at *
      have HLL := Lib.hid hll
      by_cases h0 : c = 0
      · subst h0
        have HT2 : Hid ((zs.take (k + 1)).map zeroF = acc ++ [65533]) := HT
        clear HT hll
        go_wp2_with (at_builtin; refine wpList_append_reads rfl _ _ 43 rfl w.heap.size 3 i0 .i64 8 Try.underlying43 hi hz0 hz1 hz2 _ k acc rfl (hown.alloc _) HLL.out (some ⟨wr.heap.size, 0, none⟩) 1 1 [65533] rfl rfl (reads_new wr .i64 _ 3 1 rfl (by unfold maxLen; omega)) (fun h => by cases h) (by unfold maxLen; omega) (by omega) (by simp <;> omega) ?_; intro v' w2 hown2 hgrow2)
        have hbl2 : Below w.heap.size w w2 := (hbl.alloc hsz _).grown hgrow2 (by simp <;> omega) (fun j hj => (hown.lt j hj).1)
        go_roundw
        case rel => exact ⟨k + 1, by omega, by go_num, by rw [HT2.out]; have := hown2; rw [List.length_append, HLL.out] at this; exact this, hbl2⟩
        case measure => simp [intOf]; omega
      · have n0 : (c == 0) = false := beq_eq_false_iff_ne.2 h0
        have HT2 : Hid ((zs.take (k + 1)).map zeroF = acc ++ [c]) := Lib.hid (by rw [HT.out]; unfold zeroF; rw [if_neg h0])
        clear HT hll h0
        go_wp2_with (at_builtin; refine wpList_append_reads rfl _ _ 43 rfl w.heap.size 3 i0 .i64 8 Try.underlying43 hi hz0 hz1 hz2 _ k acc rfl (hown.alloc _) HLL.out (some ⟨wr.heap.size, 0, none⟩) 1 1 [c] rfl rfl (reads_new wr .i64 _ 3 1 rfl (by unfold maxLen; omega)) (fun h => by cases h) (by unfold maxLen; omega) (by omega) (by simp <;> omega) ?_; intro v' w2 hown2 hgrow2)
        have hbl2 : Below w.heap.size w w2 := (hbl.alloc hsz _).grown hgrow2 (by simp <;> omega) (fun j hj => (hown.lt j hj).1)
        go_roundw
        case rel => exact ⟨k + 1, by omega, by go_num, by rw [HT2.out]; have := hown2; rw [List.length_append, HLL.out] at this; exact this, hbl2⟩
        case measure => simp [intOf]; omega
    · obtain rfl : k = len := by omega
      have he : (zs.take k).map zeroF = zs.map zeroF := by rw [List.take_of_length_le (by rw [H0.out]; omega)]
      rw [he] at hown
      have hlz : (zs.map zeroF).length = k := by rw [List.length_map, H0.out]
      have hB := Lib.hid (bytesF_zero zs)
      generalize zs.map zeroF = ys at *
      rw [← hlz] at hown
      obtain ⟨a, cp, hv, hrd⟩ := Reads.of_owns hown
      rw [hlz] at hv
      have hlz2 := Lib.hid hlz; clear hlz he hown
      subst hv
      go_wp2_with (go_at_call 77; refine (refText_any a cp k ys wr hlz2.out hrd (by omega)).mono ?_; rintro e w2 ⟨a2, c2, rfl, hr2, hb2, _, _⟩; have cv2 := conv3_any w2 22 5 9 Try.underlying22 Try.underlying5 Try.underlying9 a2 _ c2 (textF ys) rfl hr2)
      go_ret
      exact ⟨by rw [hB.out]; rfl, hbl.trans (hb2.mono hbl.size)⟩
theorem rtext_none (a : Option Addr) (cap : Nat) (w : World) : Calls Try.prog 59 #[.slice a 0 cap] w (Told (.string (strOfNums (bytesF []))) w) := by
  go_enter Try.func59, Try.ntmps59
  go_wp2
  refine wp_loop_rounds 1 ?_; rw [rounds_succ]
  go_wp2_with (go_at_call 77; refine (refText_any _ _ 0 [] _ rfl (reads_new w .i64 [] 3 0 rfl (by unfold maxLen; omega)) (by omega)).mono ?_; rintro e w2 ⟨a2, c2, rfl, hr2, hb2, _, _⟩; have cv2 := conv3_any w2 22 5 9 Try.underlying22 Try.underlying5 Try.underlying9 a2 _ c2 (textF []) rfl hr2)
  go_ret
  exact ⟨rfl, ((Below.refl _ w).alloc (Nat.le_refl _) _).trans (hb2.mono (by simp))⟩
theorem rtext_any (a : Option Addr) (cap n : Nat) (zs : List Int) (w : World) (hn : zs.length = n) (hr : Reads w .i64 a cap zs) (hsm : n ≤ 100000) :
    Calls Try.prog 59 #[.slice a n cap] w (Told (.string (strOfNums (bytesF zs))) w) := by
  obtain ⟨h1, h2, h3⟩ := hr
  by_cases h0 : zs = []
  · subst h0; subst hn; exact rtext_none _ cap w
  · obtain ⟨b, off, rfl, hat⟩ := h3.resolve_left h0
    exact rtext_some b off n cap zs w hn (by rw [← hn]; exact List.length_pos_iff.2 h0) (by omega) h2 hat hsm
end

section
open Go.RowKit
theorem valD_cons (b : UInt8) (ds : List UInt8) (acc : Int) : valD (b :: ds) acc = valD ds (acc * 10 + ((b.toNat : Int) - 48)) := rfl
theorem strB_append (a b : ByteArray) : strB (a ++ b) = strB a ++ strB b := by
  unfold strB
  rw [show (a ++ b).data = a.data ++ b.data from ByteArray.data_append, Array.toList_append]
def Digs (s : ByteArray) (n : Int) : Prop := 0 < s.size ∧ s.size ≤ 10 ∧ bytesAll s = true ∧ valD (strB s) 0 = n
theorem Digs.num {s : ByteArray} {n : Int} (h : Digs s n) : numB s = true ∧ signedB s = false ∧ valS s = n := by
  obtain ⟨h0, h1, ha, hv⟩ := h
  have hd : digitB ((s[0]'h0).toNat : Int) = true := by
    unfold bytesAll at ha
    exact List.all_eq_true.1 ha _ (List.mem_of_getElem? (first_get s h0))
  have n45 : s[0]'h0 ≠ 45 := fun e => by rw [e] at hd; exact absurd hd (by decide)
  have n43 : s[0]'h0 ≠ 43 := fun e => by rw [e] at hd; exact absurd hd (by decide)
  have hs : signedB s = false := by unfold signedB; rw [first_of s h0, first_of s h0, decide_eq_false n45, decide_eq_false n43]; rfl
  refine ⟨by unfold numB; rw [hs, if_neg (by decide), ha, decide_eq_true h0]; rfl, hs, ?_⟩
  unfold valS
  rw [first_of s h0, first_of s h0, if_neg (by simpa using n45), if_neg (by simpa using n43)]
  exact hv
theorem tailS_bytes (x : ByteArray) : strB (tailS x) = (strB x).drop 1 := by
  unfold tailS strB
  rw [ByteArray.data_extract, Array.toList_extract]
  show ((x.data.toList).drop 1).take (x.size - 1) = _
  rw [List.take_of_length_le (by rw [List.length_drop, Array.length_toList]; exact Nat.le_refl _)]
theorem Digs.signed {s z : ByteArray} {n : Int} (h : Digs s n) (c : UInt8) (hc : c = 43 ∨ c = 45) (zs : List UInt8) (hz : strB z = c :: zs) (hzs : ∀ b ∈ zs, b = 48) :
    numB (z ++ s) = true ∧ valS (z ++ s) = (if c = 45 then -n else n) := by
  obtain ⟨h0, h1, ha, hv⟩ := h
  have hB : strB (z ++ s) = c :: (zs ++ strB s) := by rw [strB_append, hz]; rfl
  have hsz : 0 < (z ++ s).size := by rw [ByteArray.size_append]; omega
  have hf : ∀ d : UInt8, firstB (z ++ s) d = decide (c = d) := fun d => by unfold firstB; rw [hB]; simp
  have htl : strB (tailS (z ++ s)) = zs ++ strB s := by rw [tailS_bytes, hB]; rfl
  have hts : (tailS (z ++ s)).size = (zs ++ strB s).length := by rw [← strB_len, htl]
  have hsg : signedB (z ++ s) = true := by unfold signedB; rw [hf, hf]; rcases hc with rfl | rfl <;> decide
  have hall : bytesAll (tailS (z ++ s)) = true := by
    unfold bytesAll
    rw [htl, List.all_append]
    unfold bytesAll at ha
    rw [ha, Bool.and_true, List.all_eq_true]
    intro b hb
    rw [hzs b hb]
    decide
  have hval : valD (strB (tailS (z ++ s))) 0 = n := by
    rw [htl]
    have : ∀ (l : List UInt8), (∀ b ∈ l, b = 48) → valD (l ++ strB s) 0 = valD (strB s) 0 := by
      intro l
      induction l with
      | nil => intro _; rfl
      | cons b l ih =>
        intro hl
        rw [List.cons_append, valD_cons, hl b (by simp)]
        exact ih fun x hx => hl x (by simp [hx])
    rw [this zs hzs, hv]
  refine ⟨?_, ?_⟩
  · unfold numB
    rw [hsg, if_pos rfl, hall, hts, Bool.true_and]
    exact decide_eq_true (by rw [List.length_append, strB_len]; omega)
  · unfold valS
    rw [hf, hf]
    rcases hc with rfl | rfl
    · rw [if_neg (by decide), if_pos (by decide), if_neg (by decide), hval]
    · rw [if_pos (by decide), if_pos rfl, hval]
end
end Go.Proofs.Ytelbjnanpmdnnaa
