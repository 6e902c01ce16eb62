/- Several texts of mine in one. -/
import Derived.Test.YtickcbmfboajiaaGreatDoorR4Z
import Derived.Test.YtickcbmfboajiaaGreatDoorFD
import Derived.Test.YtickcbmfboajiaaGreatDoorFF
import Derived.Test.YtickcbmfboajiaaGreatDoorFE
import Derived.Test.YtickcbmfboajiaaGreatDoorShelfA
import Derived.Lib.AtoiAllCases
namespace Go.Proofs.YtickcbmfboajiaaGreatDoor
section
open Go.RowKit

def zeroF (c : Int) : Int := if c = 0 then 65533 else c
theorem charOf_clean (c : Int) : charOf (zeroF c) = charOf (cleanF c) := by
  unfold zeroF cleanF
  by_cases h : c = 0
  · rw [if_pos h, if_pos h]
  · rw [if_neg h, if_neg h]
    unfold charOf
    by_cases hr : rightB c = true
    · rw [if_pos hr, if_pos hr]
    · rw [if_neg hr, if_pos (by decide)]
theorem bytesF_zero (zs : List Int) : textF (zs.map zeroF) = bytesF zs := by
  unfold bytesF textF
  rw [List.flatMap_map, List.flatMap_map]
  congr 1
  funext c
  rw [charOf_clean]
theorem map_snoc (f : Int → Int) (zs : List Int) (k : Nat) (h : k < zs.length) : (zs.take (k + 1)).map f = (zs.take k).map f ++ [f (zs[k]?.getD 0)] := by
  rw [List.take_add_one, List.getElem?_eq_getElem h, List.map_append]; rfl

set_option maxRecDepth 100000 in
set_option maxHeartbeats 2000000 in
theorem rtext_some (b off len cap : Nat) (zs : List Int) (w : World) (hlen : zs.length = len) (h1 : 1 ≤ len) (hl : len ≤ cap) (hcap : cap ≤ maxLen) (hat : At w .i64 b off zs) (hsm : len ≤ 100000) :
    Calls Tryz.prog 82 #[.slice (some ⟨b, off, none⟩) len cap] w (Told (.string (strOfNums (bytesF zs))) w) := by
  obtain ⟨i0, hi, hz0, hz1, hz2⟩ := info_parts Tryz.info3
  have hcap' : cap ≤ 9223372036854775807 := hcap
  have H0 := Lib.hid hlen; clear hlen hcap
  have own0 := World.ownsRow_made (base := w.heap.size) (e := 3) (size := 1) w #[] 0 (Nat.le_refl _) (by simp [maxLen]) (by simp)
  go_enter Tryz.func82, Tryz.ntmps82
  go_wp2
  go_loopw [3, 4] (fun v i wr => ∃ k : Nat, k ≤ len ∧ i = .int .i64 k ∧ wr.ownsRow w.heap.size 3 1 v k (((zs.take k).map zeroF).map (Value.int .i64)) ∧ Below w.heap.size w wr)
    (fun _ i _ => len - (intOf i).toNat)
  case atStart => exact ⟨0, by omega, rfl, own0, (Below.refl _ w).alloc (Nat.le_refl _) _⟩
  case round =>
    obtain ⟨k, hk, rfl, hown, hbl⟩ := hrel
    by_cases hlt : k < len
    · have hkz : k < zs.length := by rw [H0.out]; exact hlt
      have HT := Lib.hid (map_snoc zeroF zs k hkz)
      have hll : ((zs.take k).map zeroF).length = k := by rw [List.length_map, List.length_take]; omega
      have hc := (hat.later hbl hat.1).2 k hkz
      have hsz := hbl.size
      clear hkz
      generalize zs[k]?.getD 0 = c at hc HT
      generalize (zs.take k).map zeroF = acc at *
      have HLL := Lib.hid hll
      by_cases h0 : c = 0
      · subst h0
        have HT2 : Hid ((zs.take (k + 1)).map zeroF = acc ++ [65533]) := HT
        clear HT hll
        go_wp2_with (at_builtin; refine wpList_append_reads rfl _ _ 28 rfl w.heap.size 3 i0 .i64 8 Tryz.underlying28 hi hz0 hz1 hz2 _ k acc rfl (hown.alloc _) HLL.out (some ⟨wr.heap.size, 0, none⟩) 1 1 [65533] rfl rfl (reads_new wr .i64 _ 3 1 rfl (by unfold maxLen; omega)) (fun h => by cases h) (by unfold maxLen; omega) (by omega) (by simp <;> omega) ?_; intro v' w2 hown2 hgrow2)
        have hbl2 : Below w.heap.size w w2 := (hbl.alloc hsz _).grown hgrow2 (by simp <;> omega) (fun j hj => (hown.lt j hj).1)
        go_roundw
        case rel => exact ⟨k + 1, by omega, by go_num, by rw [HT2.out]; have := hown2; rw [List.length_append, HLL.out] at this; exact this, hbl2⟩
        case measure => simp [intOf]; omega
      · have n0 : (c == 0) = false := beq_eq_false_iff_ne.2 h0
        have HT2 : Hid ((zs.take (k + 1)).map zeroF = acc ++ [c]) := Lib.hid (by rw [HT.out]; unfold zeroF; rw [if_neg h0])
        clear HT hll h0
        go_wp2_with (at_builtin; refine wpList_append_reads rfl _ _ 28 rfl w.heap.size 3 i0 .i64 8 Tryz.underlying28 hi hz0 hz1 hz2 _ k acc rfl (hown.alloc _) HLL.out (some ⟨wr.heap.size, 0, none⟩) 1 1 [c] rfl rfl (reads_new wr .i64 _ 3 1 rfl (by unfold maxLen; omega)) (fun h => by cases h) (by unfold maxLen; omega) (by omega) (by simp <;> omega) ?_; intro v' w2 hown2 hgrow2)
        have hbl2 : Below w.heap.size w w2 := (hbl.alloc hsz _).grown hgrow2 (by simp <;> omega) (fun j hj => (hown.lt j hj).1)
        go_roundw
        case rel => exact ⟨k + 1, by omega, by go_num, by rw [HT2.out]; have := hown2; rw [List.length_append, HLL.out] at this; exact this, hbl2⟩
        case measure => simp [intOf]; omega
    · obtain rfl : k = len := by omega
      have he : (zs.take k).map zeroF = zs.map zeroF := by rw [List.take_of_length_le (by rw [H0.out]; omega)]
      rw [he] at hown
      have hlz : (zs.map zeroF).length = k := by rw [List.length_map, H0.out]
      have hB := Lib.hid (bytesF_zero zs)
      generalize zs.map zeroF = ys at *
      rw [← hlz] at hown
      obtain ⟨a, cp, hv, hrd⟩ := Reads.of_owns hown
      rw [hlz] at hv
      have hlz2 := Lib.hid hlz; clear hlz he hown
      subst hv
      go_wp2_with (go_at_call 117; refine (refText_any a cp k ys wr hlz2.out hrd (by omega)).mono ?_; rintro e w2 ⟨a2, c2, rfl, hr2, hb2, _, _⟩; have cv2 := conv3_any w2 22 5 9 Tryz.underlying22 Tryz.underlying5 Tryz.underlying9 a2 _ c2 (textF ys) rfl hr2)
      go_ret
      exact ⟨by rw [hB.out]; rfl, hbl.trans (hb2.mono hbl.size)⟩

theorem rtext_none (a : Option Addr) (cap : Nat) (w : World) : Calls Tryz.prog 82 #[.slice a 0 cap] w (Told (.string (strOfNums (bytesF []))) w) := by
  go_enter Tryz.func82, Tryz.ntmps82
  go_wp2
  refine wp_loop_rounds 1 ?_; rw [rounds_succ]
  go_wp2_with (go_at_call 117; refine (refText_any _ _ 0 [] _ rfl (reads_new w .i64 [] 3 0 rfl (by unfold maxLen; omega)) (by omega)).mono ?_; rintro e w2 ⟨a2, c2, rfl, hr2, hb2, _, _⟩; have cv2 := conv3_any w2 22 5 9 Tryz.underlying22 Tryz.underlying5 Tryz.underlying9 a2 _ c2 (textF []) rfl hr2)
  go_ret
  exact ⟨rfl, ((Below.refl _ w).alloc (Nat.le_refl _) _).trans (hb2.mono (by simp))⟩

/-- The text of characters. -/
theorem rtext_any (a : Option Addr) (cap n : Nat) (zs : List Int) (w : World) (hn : zs.length = n) (hr : Reads w .i64 a cap zs) (hsm : n ≤ 100000) :
    Calls Tryz.prog 82 #[.slice a n cap] w (Told (.string (strOfNums (bytesF zs))) w) := by
  obtain ⟨h1, h2, h3⟩ := hr
  by_cases h0 : zs = []
  · subst h0; subst hn; exact rtext_none _ cap w
  · obtain ⟨b, off, rfl, hat⟩ := h3.resolve_left h0
    exact rtext_some b off n cap zs w hn (by rw [← hn]; exact List.length_pos_iff.2 h0) (by omega) h2 hat hsm
end

section
open Go.RowKit

theorem valD_cons (b : UInt8) (ds : List UInt8) (acc : Int) : valD (b :: ds) acc = valD ds (acc * 10 + ((b.toNat : Int) - 48)) := rfl
theorem strB_append (a b : ByteArray) : strB (a ++ b) = strB a ++ strB b := by
  unfold strB
  rw [show (a ++ b).data = a.data ++ b.data from ByteArray.data_append, Array.toList_append]
theorem strB_one (x : Int) (_h0 : 0 ≤ x) (_h1 : x ≤ 255) : strB (strOfNums [x]) = [UInt8.ofNat x.toNat] := by
  unfold strB; rw [strOfNums_data]; rfl

/-- The digits of a number, as the statement writes them. -/
def Digs (s : ByteArray) (n : Int) : Prop := 0 < s.size ∧ s.size ≤ 10 ∧ bytesAll s = true ∧ valD (strB s) 0 = n

set_option maxRecDepth 100000 in
set_option maxHeartbeats 2000000 in
theorem digits_any (n : Nat) (w : World) (hn : n < 10000000000) : Calls Tryz.prog 21 #[.int .i64 n] w fun e w' => (∃ s, e = .returned (.string s) ∧ Digs s n) ∧ Below w.heap.size w w' := by
  have HN := Lib.hid hn; clear hn
  go_enter Tryz.func21, Tryz.ntmps21
  go_wp2_with fail
  go_loopw [0, 3] (fun c v wr => ∃ (q : Nat) (t : ByteArray), c = .int .i64 q ∧ v = .string t ∧ Hid (valD (strB t) q = (n : Int)) ∧ Hid (bytesAll t = true) ∧ Hid (q < 10 ^ (10 - t.size)) ∧ t.size ≤ 10 ∧ (t.size = 0 ∨ 0 < q) ∧ q < 10000000000 ∧ Below w.heap.size w wr)
    (fun c _ _ => (intOf c).toNat)
  case atStart => exact ⟨n, ByteArray.empty, rfl, rfl, Lib.hid rfl, Lib.hid rfl, Lib.hid HN.out, by decide, .inl rfl, HN.out, Below.refl _ _⟩
  case round =>
    obtain ⟨q, t, rfl, rfl, hv, ha, hp, hs, h0, hq, hbl⟩ := hrel
    have hs9 : t.size ≤ 9 := by
      rcases Nat.lt_or_ge t.size 10 with h | h
      · omega
      · have e : t.size = 10 := by omega
        have := hp.out
        rw [e] at this
        simp at this
        omega
    have hsz := hbl.size
    have cv : (convert 22 9 (.slice (some ⟨wr.heap.size, 0, none⟩) 1 1)).run Tryz.prog (wr.alloc (.cells #[.int .u8 (48 + (q : Int) % 10)] 5)) = .ok (.string (strOfNums [48 + (q : Int) % 10])) (wr.alloc (.cells #[.int .u8 (48 + (q : Int) % 10)] 5)) :=
      conv3_any _ 22 5 9 Tryz.underlying22 Tryz.underlying5 Tryz.underlying9 (some ⟨wr.heap.size, 0, none⟩) 1 1 [48 + (q : Int) % 10] rfl (reads_new wr .u8 [48 + (q : Int) % 10] 5 1 rfl (by unfold maxLen; omega))
    have hd := strB_one (48 + (q : Int) % 10) (by omega) (by omega)
    have hdz := strOfNums_size [48 + (q : Int) % 10]
    have HB : Hid (strB (strOfNums [48 + (q : Int) % 10]) = [UInt8.ofNat (48 + q % 10)]) := Lib.hid (by rw [hd]; congr 2)
    have hb4 := hbl.alloc hsz (.cells #[.int .u8 (48 + (q : Int) % 10)] 5)
    have hx : ((UInt8.ofNat (48 + q % 10)).toNat : Int) = 48 + (q : Int) % 10 := by rw [UInt8.toNat_ofNat']; omega
    have hval : Hid (valD (strB (strOfNums [48 + (q : Int) % 10] ++ t)) ((q / 10 : Nat) : Int) = (n : Int)) := Lib.hid (by
      rw [strB_append, HB.out, List.cons_append, List.nil_append, valD_cons, hx, ← hv.out]
      congr 1
      omega)
    have hall : Hid (bytesAll (strOfNums [48 + (q : Int) % 10] ++ t) = true) := Lib.hid (by
      have := ha.out
      unfold bytesAll at this ⊢
      rw [strB_append, HB.out, List.cons_append, List.nil_append, List.all_cons, this, Bool.and_true, hx]
      exact decide_eq_true (by omega))
    have hsize : (strOfNums [48 + (q : Int) % 10] ++ t).size = t.size + 1 := by rw [ByteArray.size_append, hdz]; simp; omega
    have hdl : ¬ 9223372036854775807 < (strOfNums [48 + (q : Int) % 10]).size + t.size := by rw [hdz]; simp; omega
    have HSZ := Lib.hid hsize
    clear hd hdz HB hx hv ha hsize
    generalize strOfNums [48 + (q : Int) % 10] = d at *
    by_cases hlast : q < 10
    · have e0 : ((q : Int) / 10 == 0) = true := beq_iff_eq.2 (by omega)
      have eq0 : q / 10 = 0 := by omega
      rw [eq0] at hval
      go_wp2
      go_ret
      exact ⟨⟨_, rfl, by rw [HSZ.out]; omega, by rw [HSZ.out]; omega, hall.out, hval.out⟩, hb4⟩
    · have e0 : ((q : Int) / 10 == 0) = false := beq_eq_false_iff_ne.2 (by omega)
      have hp2 : Hid (q / 10 < 10 ^ (10 - (t.size + 1))) := Lib.hid (by
        have h1 := hp.out
        have h2 : 10 - t.size = 10 - (t.size + 1) + 1 := by omega
        rw [h2, Nat.pow_succ] at h1
        omega)
      clear hp
      go_wp2
      go_roundw
      case rel => exact ⟨q / 10, d ++ t, by go_num, rfl, hval, hall, Lib.hid (by rw [HSZ.out]; exact hp2.out), by rw [HSZ.out]; omega, .inr (by omega), by omega, hb4⟩
      case measure => simp [intOf]; omega

theorem Digs.num {s : ByteArray} {n : Int} (h : Digs s n) : numB s = true ∧ signedB s = false ∧ valS s = n := by
  obtain ⟨h0, h1, ha, hv⟩ := h
  have hd : digitB ((s[0]'h0).toNat : Int) = true := by
    unfold bytesAll at ha
    exact List.all_eq_true.1 ha _ (List.mem_of_getElem? (first_get s h0))
  have n45 : s[0]'h0 ≠ 45 := fun e => by rw [e] at hd; exact absurd hd (by decide)
  have n43 : s[0]'h0 ≠ 43 := fun e => by rw [e] at hd; exact absurd hd (by decide)
  have hs : signedB s = false := by unfold signedB; rw [first_of s h0, first_of s h0, decide_eq_false n45, decide_eq_false n43]; rfl
  refine ⟨by unfold numB; rw [hs, if_neg (by decide), ha, decide_eq_true h0]; rfl, hs, ?_⟩
  unfold valS
  rw [first_of s h0, first_of s h0, if_neg (by simpa using n45), if_neg (by simpa using n43)]
  exact hv
theorem tailS_bytes (x : ByteArray) : strB (tailS x) = (strB x).drop 1 := by
  unfold tailS strB
  rw [ByteArray.data_extract, Array.toList_extract]
  show ((x.data.toList).drop 1).take (x.size - 1) = _
  rw [List.take_of_length_le (by rw [List.length_drop, Array.length_toList]; exact Nat.le_refl _)]
/-- .. with a sign, and noughts, ahead. -/
theorem Digs.signed {s z : ByteArray} {n : Int} (h : Digs s n) (c : UInt8) (hc : c = 43 ∨ c = 45) (zs : List UInt8) (hz : strB z = c :: zs) (hzs : ∀ b ∈ zs, b = 48) :
    numB (z ++ s) = true ∧ valS (z ++ s) = (if c = 45 then -n else n) := by
  obtain ⟨h0, h1, ha, hv⟩ := h
  have hB : strB (z ++ s) = c :: (zs ++ strB s) := by rw [strB_append, hz]; rfl
  have hsz : 0 < (z ++ s).size := by rw [ByteArray.size_append]; omega
  have hf : ∀ d : UInt8, firstB (z ++ s) d = decide (c = d) := fun d => by unfold firstB; rw [hB]; simp
  have htl : strB (tailS (z ++ s)) = zs ++ strB s := by rw [tailS_bytes, hB]; rfl
  have hts : (tailS (z ++ s)).size = (zs ++ strB s).length := by rw [← strB_len, htl]
  have hsg : signedB (z ++ s) = true := by unfold signedB; rw [hf, hf]; rcases hc with rfl | rfl <;> decide
  have hall : bytesAll (tailS (z ++ s)) = true := by
    unfold bytesAll
    rw [htl, List.all_append]
    unfold bytesAll at ha
    rw [ha, Bool.and_true, List.all_eq_true]
    intro b hb
    rw [hzs b hb]
    decide
  have hval : valD (strB (tailS (z ++ s))) 0 = n := by
    rw [htl]
    have : ∀ (l : List UInt8), (∀ b ∈ l, b = 48) → valD (l ++ strB s) 0 = valD (strB s) 0 := by
      intro l
      induction l with
      | nil => intro _; rfl
      | cons b l ih =>
        intro hl
        rw [List.cons_append, valD_cons, hl b (by simp)]
        exact ih fun x hx => hl x (by simp [hx])
    rw [this zs hzs, hv]
  refine ⟨?_, ?_⟩
  · unfold numB
    rw [hsg, if_pos rfl, hall, hts, Bool.true_and]
    exact decide_eq_true (by rw [List.length_append, strB_len]; omega)
  · unfold valS
    rw [hf, hf]
    rcases hc with rfl | rfl
    · rw [if_neg (by decide), if_pos (by decide), if_neg (by decide), hval]
    · rw [if_pos (by decide), if_pos rfl, hval]
end

section
open Go.RowKit Go.Shelf
set_option linter.unusedVariables false
set_option linter.unusedSimpArgs false

theorem toList_strB (s : ByteArray) : s.toList = strB s := ByteArray.toList_eq s
/-- A sign, ahead of a number without one. -/
theorem numB_sign {c : UInt8} {x : ByteArray} (hc : c = 43 ∨ c = 45) (hx : numB x = true) (hu : signedB x = false) : numB ((⟨#[c]⟩ : ByteArray) ++ x) = true := by
  have hB : strB ((⟨#[c]⟩ : ByteArray) ++ x) = c :: strB x := by rw [strB_append]; rfl
  have hf : ∀ d : UInt8, firstB ((⟨#[c]⟩ : ByteArray) ++ x) d = decide (c = d) := fun d => by unfold firstB; rw [hB]; simp
  have hs : signedB ((⟨#[c]⟩ : ByteArray) ++ x) = true := by unfold signedB; rw [hf, hf]; rcases hc with rfl | rfl <;> decide
  unfold numB at hx
  rw [hu, if_neg (by decide), Bool.and_eq_true, decide_eq_true_iff] at hx
  have ht : strB (tailS ((⟨#[c]⟩ : ByteArray) ++ x)) = strB x := by rw [tailS_bytes, hB]; rfl
  have hz : (tailS ((⟨#[c]⟩ : ByteArray) ++ x)).size = x.size := by rw [← strB_len, ht, strB_len]
  unfold numB
  rw [hs, if_pos rfl, hz, decide_eq_true hx.2, Bool.and_true]
  unfold bytesAll
  rw [ht]
  exact hx.1
theorem signT_text {t : Tk} {c : UInt8} (h : signT t ⟨#[c]⟩ = true) : txS t = ⟨#[c]⟩ := by
  unfold signT at h
  rw [Bool.and_eq_true, toList_strB, toList_strB, beq_iff_eq] at h
  exact strB_inj h.2
theorem wholeT_num {t : Tk} {k : Int} (h : wholeT t k = true) : numB (nmT t) = true := by
  unfold wholeT at h
  rw [Bool.and_eq_true] at h
  exact h.2
theorem plainT_num {ts : List Tk} {k : Nat} (h : plainT ts k = true) : numB (nmT (tkAt ts k)) = true ∧ signedB (nmT (tkAt ts k)) = false := by
  unfold plainT at h
  rw [Bool.and_eq_true, Bool.and_eq_true, Bool.not_eq_true'] at h
  exact ⟨wholeT_num h.1.2, h.2⟩
def NumOk (s : ByteArray) : Prop := numB s = true ∧ s.size ≤ 900001
theorem behindT_num {ts : List Tk} (hS : ShortT ts) (z : Nat) : NumOk (behindT ts z).1 := by
  have h0 : NumOk ⟨#[48]⟩ := ⟨by decide, by decide⟩
  unfold behindT
  split
  · exact h0
  · split
    · rename_i h
      rw [Bool.and_eq_true] at h
      exact ⟨wholeT_num h.1, Nat.le_trans (hS _).2 (by omega)⟩
    · split
      · rename_i h
        rw [Bool.and_eq_true, Bool.or_eq_true] at h
        obtain ⟨hp, hu⟩ := plainT_num h.2
        have hz := (hS (blF ts (blF ts z + 1))).2
        rcases h.1 with h1 | h1
        · show NumOk (txS _ ++ _)
          rw [signT_text h1]
          exact ⟨numB_sign (.inl rfl) hp hu, by rw [ByteArray.size_append]; show 1 + _ ≤ _; omega⟩
        · show NumOk (txS _ ++ _)
          rw [signT_text h1]
          exact ⟨numB_sign (.inr rfl) hp hu, by rw [ByteArray.size_append]; show 1 + _ ≤ _; omega⟩
      · exact h0
theorem rowP_num {ts : List Tk} (hS : ShortT ts) {A rest : ByteArray} {z : Nat} (hA : NumOk A) (hr : rest.size ≤ 900000) (h : (rowP ts A rest z).2 = true) : NumOk (rowP ts A rest z).1.1 ∧ NumOk (rowP ts A rest z).1.2.1 := by
  unfold rowP at h ⊢
  split
  · exact ⟨hA, behindT_num hS z⟩
  · rename_i h0
    rw [if_neg h0] at h
    split
    · rename_i h1
      rw [if_pos h1] at h
      split
      · rename_i h2
        obtain ⟨hp, hu⟩ := plainT_num h2
        have hz := (hS (blF ts z)).2
        exact ⟨hA, numB_sign (.inr rfl) hp hu, by show ((⟨#[45]⟩ : ByteArray) ++ _).size ≤ _; rw [ByteArray.size_append]; show 1 + _ ≤ _; omega⟩
      · rename_i h2
        rw [if_neg h2] at h
        exact absurd h (by decide)
    · rename_i h1
      rw [if_neg h1] at h
      have h' : (firstB rest 45 && numB rest) = true := h
      rw [Bool.and_eq_true] at h'
      exact ⟨hA, h'.2, Nat.le_trans hr (by omega)⟩
theorem headN_num {ts : List Tk} (hS : ShortT ts) {k : Nat} {A nm : ByteArray} {z : Nat} (h : headN ts k = some (A, nm, z)) : NumOk A ∧ nm.size ≤ 900000 := by
  have hk := hS k
  have hk1 := hS (k + 1)
  unfold headN at h
  split at h
  · rename_i h1
    cases h
    exact ⟨⟨wholeT_num h1, by omega⟩, by rw [lowS_size]; exact hk.1⟩
  · split at h
    · split at h
      · cases h; exact ⟨⟨by decide, by decide⟩, by rw [tailS_size, lowS_size]; omega⟩
      · cases h; exact ⟨⟨by decide, by decide⟩, by rw [lowS_size]; omega⟩
    · split at h
      · cases h; exact ⟨⟨by decide, by decide⟩, by rw [lowS_size]; omega⟩
      · cases h
theorem findP_num {ts : List Tk} (hS : ShortT ts) (h : (findP ts).2 = true) : NumOk (findP ts).1.1 ∧ NumOk (findP ts).1.2.1 := by
  have ok : ∀ c : UInt8, c = 48 ∨ c = 49 ∨ c = 50 → NumOk ⟨#[c]⟩ := fun c hc => by rcases hc with rfl | rfl | rfl <;> exact ⟨by decide, by decide⟩
  unfold findP at h ⊢
  split
  · rename_i h0; rw [if_pos h0] at h; exact absurd h (by decide)
  · rename_i h0
    rw [if_neg h0] at h
    split
    · exact ⟨ok _ (by simp), ok _ (by simp)⟩
    · rename_i h1
      rw [if_neg h1] at h
      split
      · exact ⟨ok _ (by simp), ok _ (by simp)⟩
      · rename_i h2
        rw [if_neg h2] at h
        split
        · rename_i h3
          exact ⟨ok _ (by simp), wholeT_num h3, Nat.le_trans (hS _).2 (by omega)⟩
        · rename_i h3
          rw [if_neg h3] at h
          rcases hh : headN ts (blF ts 0) with _ | ⟨A, nm, z⟩
          · rw [hh] at h
            exact absurd (show false = true from h) (by decide)
          · rw [hh] at h
            have hd := headN_num hS hh
            have h2 : (if hasN nm = true then rowP ts A (cutN nm) z else ((⟨#[]⟩, ⟨#[]⟩, 0), false)).2 = true := h
            show NumOk (if hasN nm = true then rowP ts A (cutN nm) z else ((⟨#[]⟩, ⟨#[]⟩, 0), false)).1.1 ∧ NumOk (if hasN nm = true then rowP ts A (cutN nm) z else ((⟨#[]⟩, ⟨#[]⟩, 0), false)).1.2.1
            by_cases h4 : hasN nm = true
            · rw [if_pos h4] at h2 ⊢
              exact rowP_num hS hd.1 (Nat.le_trans (cutN_size nm) hd.2) h2
            · rw [if_neg h4] at h2
              exact absurd (show false = true from h2) (by decide)
end

section
open Go.RowKit Go.Extern.Stop Go.Stop Go.Extern

theorem valD_ge : ∀ (ds : List UInt8) (acc : Int), 0 ≤ acc → (∀ b ∈ ds, digitB b.toNat = true) → acc ≤ valD ds acc
  | [], acc, _, _ => Int.le_refl _
  | b :: ds, acc, h, hd => by
    have hb := hd b (by simp)
    unfold digitB at hb
    rw [decide_eq_true_iff] at hb
    have := valD_ge ds (acc * 10 + ((b.toNat : Int) - 48)) (by omega) fun x hx => hd x (by simp [hx])
    rw [valD_cons]
    omega
theorem cast_step (acc m : Nat) (h : 48 ≤ m) : ((acc * 10 + (m - 48) : Nat) : Int) = (acc : Int) * 10 + ((m : Int) - 48) := by omega
/-- What the library's reading of digits tells. -/
theorem parse_digits : ∀ (ds : List UInt8) (acc : Nat), (∀ b ∈ ds, digitB b.toNat = true) →
    (∃ u, Lib.parseUint10 acc ds = .ok u ∧ (u : Int) = valD ds acc) ∨ (Lib.parseUint10 acc ds = .range ∧ 18446744073709551616 ≤ valD ds acc)
  | [], acc, _ => .inl ⟨acc, rfl, rfl⟩
  | b :: ds, acc, hd => by
    have hb := hd b (by simp)
    unfold digitB at hb
    rw [decide_eq_true_iff] at hb
    have hb' : 48 ≤ b.toNat ∧ b.toNat ≤ 57 := by omega
    have hr : ∀ x ∈ ds, digitB x.toNat = true := fun x hx => hd x (by simp [hx])
    have hge := valD_ge ds ((acc : Int) * 10 + ((b.toNat : Int) - 48)) (by omega) hr
    rw [Lib.parseUint10, if_pos hb', valD_cons]
    by_cases h1 : 1844674407370955162 ≤ acc
    · rw [if_pos h1]; exact .inr ⟨rfl, by omega⟩
    · rw [if_neg h1]
      by_cases h2 : 18446744073709551616 ≤ acc * 10 + (b.toNat - 48)
      · rw [if_pos h2]; exact .inr ⟨rfl, by omega⟩
      · rw [if_neg h2]
        have := parse_digits ds (acc * 10 + (b.toNat - 48)) hr
        have e := cast_step acc b.toNat hb'.1
        rw [e] at this
        exact this
theorem mag_digits (ds : List UInt8) (hne : ds ≠ []) (hd : ∀ b ∈ ds, digitB b.toNat = true) :
    (∃ u, Lib.parseMag ds = .ok u ∧ (u : Int) = valD ds 0) ∨ (Lib.parseMag ds = .range ∧ 18446744073709551616 ≤ valD ds 0) := by
  unfold Lib.parseMag
  rw [if_neg hne]
  exact parse_digits ds 0 hd

/-- Atoi's end at a number's text. -/
theorem atoiAll_num (s : ByteArray) (h : numB s = true) :
    (Lib.atoiAll s.data.toList = .ok (valS s)) ∨ (Lib.atoiAll s.data.toList = .range ∧ ¬ (-2147483647 ≤ valS s ∧ valS s ≤ 2147483647)) := by
  show (Lib.atoiAll (strB s) = _) ∨ (Lib.atoiAll (strB s) = _ ∧ _)
  have h1 : 0 < s.size := by
    rcases Nat.eq_zero_or_pos s.size with h0 | h0
    · have hs : signedB s = false := by
        rcases hq : signedB s with _ | _
        · rfl
        · have := signedB_pos hq; omega
      unfold numB at h
      rw [hs, if_neg (by decide), h0] at h
      simp at h
    · exact h0
  have hc := first_get s h1
  have hlist : strB s = s[0]'h1 :: (strB s).drop 1 := by
    cases hq : strB s with
    | nil => rw [hq] at hc; simp at hc
    | cons x xs => rw [hq] at hc; simp at hc; rw [hc]; rfl
  have htl : strB (tailS s) = (strB s).drop 1 := tailS_bytes s
  have hall : ∀ t : ByteArray, bytesAll t = true → ∀ b ∈ strB t, digitB b.toNat = true := fun t ht b hb => by unfold bytesAll at ht; exact List.all_eq_true.1 ht b hb
  by_cases h45 : s[0]'h1 = 45
  · have hsg : signedB s = true := by unfold signedB; rw [first_of s h1, first_of s h1, h45]; rfl
    have hv : valS s = - valD (strB (tailS s)) 0 := by unfold valS; rw [first_of s h1, h45, if_pos (by decide)]
    unfold numB at h
    rw [hsg, if_pos rfl, Bool.and_eq_true, decide_eq_true_iff] at h
    have hne : strB (tailS s) ≠ [] := fun e => by have := strB_len (tailS s); rw [e] at this; simp at this; omega
    rw [hlist, h45, Lib.atoiAll_minus, ← htl, hv]
    rcases mag_digits _ hne (hall _ h.1) with ⟨u, hu, huv⟩ | ⟨hr, hrv⟩
    · rw [hu]
      unfold Lib.signed
      dsimp only
      split
      · rename_i hq; exact .inr ⟨rfl, by omega⟩
      · exact .inl (by rw [huv])
    · rw [hr]; exact .inr ⟨rfl, by omega⟩
  · by_cases h43 : s[0]'h1 = 43
    · have hsg : signedB s = true := by unfold signedB; rw [first_of s h1, first_of s h1, h43]; rfl
      have hv : valS s = valD (strB (tailS s)) 0 := by unfold valS; rw [first_of s h1, first_of s h1, h43, if_neg (by decide), if_pos (by decide)]
      unfold numB at h
      rw [hsg, if_pos rfl, Bool.and_eq_true, decide_eq_true_iff] at h
      have hne : strB (tailS s) ≠ [] := fun e => by have := strB_len (tailS s); rw [e] at this; simp at this; omega
      rw [hlist, h43, Lib.atoiAll_plus, ← htl, hv]
      rcases mag_digits _ hne (hall _ h.1) with ⟨u, hu, huv⟩ | ⟨hr, hrv⟩
      · rw [hu]
        unfold Lib.signless
        dsimp only
        split
        · rename_i hq; exact .inr ⟨rfl, by omega⟩
        · exact .inl (by rw [huv])
      · rw [hr]; exact .inr ⟨rfl, by omega⟩
    · have hsg : signedB s = false := by unfold signedB; rw [first_of s h1, first_of s h1, decide_eq_false h45, decide_eq_false h43]; rfl
      have hv : valS s = valD (strB s) 0 := by unfold valS; rw [first_of s h1, first_of s h1, if_neg (by simpa using h45), if_neg (by simpa using h43)]
      unfold numB at h
      rw [hsg, if_neg (by decide), Bool.and_eq_true, decide_eq_true_iff] at h
      have hne : strB s ≠ [] := fun e => by have := strB_len s; rw [e] at this; simp at this; omega
      have e1 : Lib.atoiAll (strB s) = Lib.signless (Lib.parseMag (strB s)) := by
        conv => lhs; rw [hlist]
        rw [Lib.atoiAll_plain _ _ (fun e => h43 (UInt8.toNat_inj.1 (by rw [e]; rfl))) (fun e => h45 (UInt8.toNat_inj.1 (by rw [e]; rfl))), ← hlist]
      rw [e1, hv]
      rcases mag_digits _ hne (hall _ h.1) with ⟨u, hu, huv⟩ | ⟨hr, hrv⟩
      · rw [hu]
        unfold Lib.signless
        dsimp only
        split
        · rename_i hq; exact .inr ⟨rfl, by omega⟩
        · exact .inl (by rw [huv])
      · rw [hr]; exact .inr ⟨rfl, by omega⟩
end

section
open Go.RowKit

/-- The tokens of "2n + 1". -/
def T0 : List Tk := [⟨12, 0, 2, [110], [50], true⟩, ⟨13, 2, 3, [], [], false⟩, ⟨9, 3, 4, [43], [], false⟩, ⟨13, 4, 5, [], [], false⟩, ⟨10, 5, 6, [], [49], true⟩, ⟨0, 6, 6, [], [], false⟩]
theorem T0_toks : toksF [50, 110, 32, 43, 32, 49] = T0 := by decide +kernel
theorem n2 : strOfNums [50] = ⟨#[50]⟩ := by decide +kernel
theorem n1 : strOfNums [49] = ⟨#[49]⟩ := by decide +kernel
theorem nn : strOfNums [110] = ⟨#[110]⟩ := by decide +kernel
theorem np : strOfNums [43] = ⟨#[43]⟩ := by decide +kernel
theorem n0 : strOfNums [] = ⟨#[]⟩ := by decide +kernel

theorem T0_cells {w : World} {a : Option Addr} {cap : Nat} (h : ReadsT w a cap T0) : ∃ b, a = some ⟨b, 0, none⟩ ∧ b < w.heap.size ∧ 6 ≤ cap ∧ cap ≤ 9223372036854775807 ∧
    ∀ (j : Nat) (v : Value), (T0.flatMap tkCells)[j]? = some v → w.cell? ⟨b, j, none⟩ = some v := by
  obtain ⟨h1, h2, b, rfl, hb, hc⟩ := h
  exact ⟨b, rfl, hb, h1, h2, hc⟩

set_option maxRecDepth 100000 in
set_option maxHeartbeats 1000000 in
theorem lower_n (w : World) : Calls Tryz.prog 97 #[.string ⟨#[110]⟩] w (Told (.string ⟨#[110]⟩) w) := by
  obtain ⟨cap, w2, hrun, hcap, hb2, hz2, hcells, hfz⟩ := conv_strW ⟨#[110]⟩ w
  have c0 : w2.cell? ⟨w.heap.size, 0, none⟩ = some (.int .u8 110) := hcells 0 110 rfl
  have f0 := hfz 0 (by decide)
  have hsz : ByteArray.size ⟨#[110]⟩ = 1 := rfl
  rw [hsz] at hrun hcap
  have hcap' : (1 : Int) ≤ (cap : Int) := by omega
  have hsm := fun w => small_any 110 w (by unfold Ch; omega)
  rw [show smallF 110 = 110 from by decide] at hsm
  have c3 : (w2.setCell ⟨w.heap.size, 0, none⟩ (.int .u8 110)).cell? ⟨w.heap.size, 0, none⟩ = some (.int .u8 110) := World.cell?_setCell_same' _ _ _ (by rw [c0]; rfl)
  have hb3 : Below w.heap.size w (w2.setCell ⟨w.heap.size, 0, none⟩ (.int .u8 110)) := hb2.setCell (p := ⟨w.heap.size, 0, none⟩) (Nat.le_refl _) _
  have cv := run_convert_bytes_arg (w2.setCell ⟨w.heap.size, 0, none⟩ (.int .u8 110)) 22 5 Tryz.underlying22 Tryz.underlying5 w.heap.size 0 1 cap [110] rfl (fun i hi => by
    obtain rfl : i = 0 := by simpa using hi
    exact c3) 9 Tryz.underlying9
  rw [show strOfNums [110] = ⟨#[110]⟩ from by decide +kernel] at cv
  clear hcells hfz
  go_enter Tryz.func97, Tryz.ntmps97
  go_wp2_with fail
  refine wp_loop_rounds 2 ?_
  rw [rounds_succ]
  go_wp2_with fail
  refine (hsm _).mono ?_
  rintro e w3 ⟨rfl, rfl⟩
  go_wp2
  rw [rounds_succ]
  go_wp2
  go_ret
  exact ⟨rfl, hb3⟩

set_option maxRecDepth 100000 in
set_option maxHeartbeats 1000000 in
theorem cutPrefix_n (w : World) : Calls Tryz.prog 100 #[.string ⟨#[110]⟩, .string ⟨#[110]⟩] w (Tells (.tuple #[.string ⟨#[]⟩, .bool true]) w) := by
  have h := fun w => hasPrefixIn_one ⟨#[110]⟩ 110 w
  rw [show firstB ⟨#[110]⟩ 110 = true from by decide +kernel] at h
  have hx : ({ data := #[110] } : ByteArray).extract 1 1 = ⟨#[]⟩ := by decide +kernel
  have hi : Calls Tryz.prog 131 #[.string ⟨#[110]⟩, .string ⟨#[110]⟩] w (Tells (.tuple #[.string ⟨#[]⟩, .bool true]) w) := by
    go_enter Tryz.func131, Tryz.ntmps131
    go_wp2_with fail
    refine (h _).mono ?_
    rintro e wq ⟨rfl, hwq⟩; replace hwq := hwq.symm; subst hwq
    go_wp2
    go_ret2
    exact ⟨by first | rfl | (simp [hx]), rfl⟩
  go_enter Tryz.func100, Tryz.ntmps100
  go_wp2_with fail
  refine hi.mono ?_
  rintro e wq ⟨rfl, hwq⟩; replace hwq := hwq.symm; subst hwq
  go_wp2
  go_ret2
  exact ⟨rfl, rfl⟩
end

section
open Go.RowKit

theorem whole_t0 (w : World) : Calls Tryz.prog 49 #[.agg #[.int .i64 12, .int .i64 0, .int .i64 2, .string ⟨#[110]⟩, .string ⟨#[50]⟩, .bool true], .int .i64 12] w (Told (.bool true) w) := by
  have h := isWhole_any ⟨12, 0, 2, [110], [50], true⟩ 12 w (by decide +kernel)
  rw [show wholeT ⟨12, 0, 2, [110], [50], true⟩ 12 = true from by decide +kernel] at h
  unfold tkV tkCells at h
  dsimp only at h
  rw [nn, n2] at h
  exact h
theorem whole_t0n (w : World) : Calls Tryz.prog 49 #[.agg #[.int .i64 12, .int .i64 0, .int .i64 2, .string ⟨#[110]⟩, .string ⟨#[50]⟩, .bool true], .int .i64 10] w (Told (.bool false) w) := by
  have h := isWhole_any ⟨12, 0, 2, [110], [50], true⟩ 10 w (by decide +kernel)
  rw [show wholeT ⟨12, 0, 2, [110], [50], true⟩ 10 = false from by decide +kernel] at h
  unfold tkV tkCells at h
  dsimp only at h
  rw [nn, n2] at h
  exact h
theorem whole_t2 (w : World) : Calls Tryz.prog 49 #[.agg #[.int .i64 9, .int .i64 3, .int .i64 4, .string ⟨#[43]⟩, .string ⟨#[]⟩, .bool false], .int .i64 10] w (Told (.bool false) w) := by
  have h := isWhole_any ⟨9, 3, 4, [43], [], false⟩ 10 w (by decide +kernel)
  rw [show wholeT ⟨9, 3, 4, [43], [], false⟩ 10 = false from by decide +kernel] at h
  unfold tkV tkCells at h
  dsimp only at h
  rw [np, n0] at h
  exact h
theorem sign_t2 (w : World) : Calls Tryz.prog 99 #[.agg #[.int .i64 9, .int .i64 3, .int .i64 4, .string ⟨#[43]⟩, .string ⟨#[]⟩, .bool false], .string ⟨#[43]⟩] w (Told (.bool true) w) := by
  have h := isSign_any ⟨9, 3, 4, [43], [], false⟩ ⟨#[43]⟩ w
  rw [show signT ⟨9, 3, 4, [43], [], false⟩ ⟨#[43]⟩ = true from by decide +kernel] at h
  unfold tkV tkCells at h
  dsimp only at h
  rw [np, n0] at h
  exact h

set_option maxRecDepth 100000 in
set_option maxHeartbeats 2000000 in
theorem readHead_0 (a : Option Addr) (cap : Nat) (w : World) (h : ReadsT w a cap T0) :
    Calls Tryz.prog 50 #[.slice a 6 cap, .int .i64 0] w (Told (.tuple #[.agg #[.string ⟨#[50]⟩, .string ⟨#[]⟩, .int .i64 1], .bool true]) w) := by
  obtain ⟨b, rfl, hbl, hcap1, hcap2, hc⟩ := T0_cells h
  have hW := h.later ((Below.refl _ w).alloc (Nat.le_refl _) (.cells [.string ⟨#[]⟩, .string ⟨#[]⟩, .int .i64 0].toArray 80))
  have hbW := (Below.refl w.heap.size w).alloc (Nat.le_refl _) (.cells [.string ⟨#[]⟩, .string ⟨#[]⟩, .int .i64 0].toArray 80)
  have hB : Blk (w.alloc (.cells [.string ⟨#[]⟩, .string ⟨#[]⟩, .int .i64 0].toArray 80)) w.heap.size [.string ⟨#[]⟩, .string ⟨#[]⟩, .int .i64 0] 80 := Blk.alloc _ _
  have hZ : (w.alloc (.cells [.string ⟨#[]⟩, .string ⟨#[]⟩, .int .i64 0].toArray 80)).heap.size = w.heap.size + 1 := by simp
  have c3 := hc 3 _ rfl
  rw [nn] at c3
  have hcap1' : (6 : Int) ≤ (cap : Int) := by omega
  have fL := fun w => lower_n w
  clear hc h
  go_enter Tryz.func50, Tryz.ntmps50
  go_wp2_with fail
  refine (fL _).mono ?_
  rintro e w1 ⟨rfl, hb1⟩
  have h1 := hW.later hb1
  have B1 := hB.later hb1 (by omega)
  have hbw1 := hbW.trans (hb1.mono (by omega))
  have hz1 := hb1.size
  rw [hZ] at hz1
  clear hW hB hb1 hbW hZ c3 hcap1
  obtain ⟨_, e1, _, _, _, hc⟩ := T0_cells h1
  cases e1
  have c0 := hc 0 _ rfl
  have c1 := hc 1 _ rfl
  have c2 := hc 2 _ rfl
  have c3 := hc 3 _ rfl
  have c4 := hc 4 _ rfl
  have c5 := hc 5 _ rfl
  rw [nn] at c3
  rw [n2] at c4
  clear hc
  have hb1' : b < w1.heap.size := by omega
  go_wp2_with fail
  have hbA := hbw1.alloc hbw1.size (.cells [.string ⟨#[49]⟩, .string ⟨#[]⟩, .int .i64 1].toArray 80)
  have hbB := hbA.alloc hbA.size (.cells [.int .i64 12, .int .i64 0, .int .i64 2, .string ⟨#[110]⟩, .string ⟨#[50]⟩, .bool true].toArray 32)
  have BA : Blk (w1.alloc (.cells [.string ⟨#[49]⟩, .string ⟨#[]⟩, .int .i64 1].toArray 80)) w1.heap.size [.string ⟨#[49]⟩, .string ⟨#[]⟩, .int .i64 1] 80 := Blk.alloc _ _
  have BAB := BA.alloc_old (.cells [.int .i64 12, .int .i64 0, .int .i64 2, .string ⟨#[110]⟩, .string ⟨#[50]⟩, .bool true].toArray 32)
  have BB : Blk ((w1.alloc (.cells [.string ⟨#[49]⟩, .string ⟨#[]⟩, .int .i64 1].toArray 80)).alloc (.cells [.int .i64 12, .int .i64 0, .int .i64 2, .string ⟨#[110]⟩, .string ⟨#[50]⟩, .bool true].toArray 32)) (w1.alloc (.cells [.string ⟨#[49]⟩, .string ⟨#[]⟩, .int .i64 1].toArray 80)).heap.size [.int .i64 12, .int .i64 0, .int .i64 2, .string ⟨#[110]⟩, .string ⟨#[50]⟩, .bool true] 32 := Blk.alloc _ _
  have B1B := (B1.alloc_old (.cells [.string ⟨#[49]⟩, .string ⟨#[]⟩, .int .i64 1].toArray 80)).alloc_old (.cells [.int .i64 12, .int .i64 0, .int .i64 2, .string ⟨#[110]⟩, .string ⟨#[50]⟩, .bool true].toArray 32)
  have hzB : ((w1.alloc (.cells [.string ⟨#[49]⟩, .string ⟨#[]⟩, .int .i64 1].toArray 80)).alloc (.cells [.int .i64 12, .int .i64 0, .int .i64 2, .string ⟨#[110]⟩, .string ⟨#[50]⟩, .bool true].toArray 32)).heap.size = w1.heap.size + 2 := by simp
  rw [show (w1.alloc (.cells [.string ⟨#[49]⟩, .string ⟨#[]⟩, .int .i64 1].toArray 80)).heap.size = w1.heap.size + 1 from by simp] at BB
  refine (whole_t0 _).mono ?_
  rintro e w2 ⟨rfl, hb2⟩
  have BA2 := BAB.later hb2 (by omega)
  have BB2 := BB.later hb2 (by omega)
  have B12 := B1B.later hb2 (by omega)
  have hbw2 := hbB.trans (hb2.mono (by omega))
  have hne1 : ¬ w.heap.size = w1.heap.size := by omega
  have hne2 : ¬ w1.heap.size = w.heap.size := by omega
  clear c0 c1 c2 c3 c4 c5 hbA hbB BA BAB BB B1B hzB hb2 B1 h1 hbw1
  have c4 := BB2.cell 4 _ rfl
  have a0 := BA2.cell 0 _ rfl
  have a1 := BA2.cell 1 _ rfl
  have a2 := BA2.cell 2 _ rfl
  have x0 := BA2.frozen 0
  have x1 := BA2.frozen 1
  have x2 := BA2.frozen 2
  have r0 := B12.cell 0 _ rfl
  have r1 := B12.cell 1 _ rfl
  have r2 := B12.cell 2 _ rfl
  have y0 := B12.frozen 0
  have y1 := B12.frozen 1
  have y2 := B12.frozen 2
  generalize w1.heap.size = p at *
  have fC := fun w => cutPrefix_n w
  go_wp2_with (go_at_call 100; refine (fC _).mono ?_; rintro e wq ⟨rfl, hwq⟩; replace hwq := hwq.symm; subst hwq)
  refine bodyPost_ret (v := .tuple #[.agg #[.string ⟨#[50]⟩, .string ⟨#[]⟩, .int .i64 1], .bool true]) (by simp [results, Tryz.results50, go_sem, r0, r1, r2]) rfl ⟨rfl, ?_⟩
  exact ((((hbw2.setCell (p := ⟨p, 0, none⟩) (by show w.heap.size ≤ p; omega) _).setCell (p := ⟨p, 1, none⟩) (by show w.heap.size ≤ p; omega) _).setCell (p := ⟨w.heap.size, 0, none⟩) (Nat.le_refl _) _).setCell (p := ⟨w.heap.size, 1, none⟩) (Nat.le_refl _) _).setCell (p := ⟨w.heap.size, 2, none⟩) (Nat.le_refl _) _
end

section
open Go.RowKit

theorem blanks_T0 (a : Option Addr) (cap : Nat) (w : World) (h : ReadsT w a cap T0) (i : Int) (k r : Nat) (hi : i = (k : Int)) (hk : k ≤ 6) (hr : blF T0 k = r) :
    Calls Tryz.prog 47 #[.slice a 6 cap, .int .i64 i] w (Tells (.int .i64 r) w) := by
  have := ablanks_any T0 6 cap a i k w h rfl (by decide) hi hk
  rwa [hr] at this
theorem plain_T0 (a : Option Addr) (cap : Nat) (w : World) (h : ReadsT w a cap T0) : Calls Tryz.prog 102 #[.slice a 6 cap, .int .i64 4] w (Told (.bool true) w) := by
  have := isPlain_any T0 6 cap a 4 4 w h rfl (by decide) rfl (by decide +kernel)
  rwa [show plainT T0 4 = true from by decide +kernel] at this

set_option maxRecDepth 100000 in
set_option maxHeartbeats 2000000 in
theorem behind_1 (a : Option Addr) (cap : Nat) (w : World) (h : ReadsT w a cap T0) :
    Calls Tryz.prog 101 #[.slice a 6 cap, .int .i64 1] w (Told (.tuple #[.string ⟨#[43, 49]⟩, .int .i64 5]) w) := by
  obtain ⟨b, rfl, hbl, hcap1, hcap2, hc⟩ := T0_cells h
  have f0 := blanks_T0 _ cap w h 1 1 2 rfl (by decide) (by decide +kernel)
  have c0 := hc 12 _ rfl
  have c1 := hc 13 _ rfl
  have c2 := hc 14 _ rfl
  have c3 := hc 15 _ rfl
  have c4 := hc 16 _ rfl
  have c5 := hc 17 _ rfl
  rw [np] at c3
  rw [n0] at c4
  have hcap1' : (6 : Int) ≤ (cap : Int) := by omega
  clear hc
  go_enter Tryz.func101, Tryz.ntmps101
  go_wp2_with (go_at_call 47; refine f0.mono ?_; rintro e wq ⟨rfl, hwq⟩; replace hwq := hwq.symm; subst hwq)
  have hbA := (Below.refl w.heap.size w).alloc (Nat.le_refl _) (.cells [.int .i64 9, .int .i64 3, .int .i64 4, .string ⟨#[43]⟩, .string ⟨#[]⟩, .bool false].toArray 32)
  have BA : Blk (w.alloc (.cells [.int .i64 9, .int .i64 3, .int .i64 4, .string ⟨#[43]⟩, .string ⟨#[]⟩, .bool false].toArray 32)) w.heap.size [.int .i64 9, .int .i64 3, .int .i64 4, .string ⟨#[43]⟩, .string ⟨#[]⟩, .bool false] 32 := Blk.alloc _ _
  have hA := h.later hbA
  have hzA : (w.alloc (.cells [.int .i64 9, .int .i64 3, .int .i64 4, .string ⟨#[43]⟩, .string ⟨#[]⟩, .bool false].toArray 32)).heap.size = w.heap.size + 1 := by simp
  refine (whole_t2 _).mono ?_
  rintro e w1 ⟨rfl, hb1⟩
  have h1 := hA.later hb1
  have B1 := BA.later hb1 (by omega)
  have hbw1 := hbA.trans (hb1.mono (by omega))
  have hz1 := hb1.size
  clear hA BA hbA hb1 c0 c1 c2 c3 c4 c5 f0
  have f1 := blanks_T0 _ cap w1 h1 3 3 4 rfl (by decide) (by decide +kernel)
  have d0 := B1.cell 0 _ rfl
  have d1 := B1.cell 1 _ rfl
  have d2 := B1.cell 2 _ rfl
  have d3 := B1.cell 3 _ rfl
  have d4 := B1.cell 4 _ rfl
  have d5 := B1.cell 5 _ rfl
  have fS := fun w => sign_t2 w
  have hst : ∀ {w' : World}, Below w1.heap.size w1 w' → ReadsT w' (some ⟨b, 0, none⟩) cap T0 := fun hb => h1.later hb
  go_wp2_with (first | (go_at_call 47; refine f1.mono ?_; rintro e wq ⟨rfl, hwq⟩; replace hwq := hwq.symm; subst hwq) | (go_at_call 99; refine (fS _).mono ?_; rintro e w2 ⟨rfl, hb2⟩) | (go_at_call 102; refine (plain_T0 _ _ _ (hst hb2)).mono ?_; rintro e w3 ⟨rfl, hb3⟩))
  have hb23 := hb2.trans (hb3.mono hb2.size)
  have h3 := h1.later hb23
  have B3 := B1.later hb23 (by omega)
  have hbw3 := hbw1.trans (hb23.mono (by omega))
  obtain ⟨_, e1, hbl3, _, _, hc⟩ := T0_cells h3
  cases e1
  have g4 := hc 28 _ rfl
  rw [n1] at g4
  have g3 := B3.cell 3 _ rfl
  clear d0 d1 d2 d3 d4 d5 hc f1 hst hb2 hb3 hb23 h1 B1
  have hap : (ByteArray.mk #[43] ++ ByteArray.mk #[49] : ByteArray) = ⟨#[43, 49]⟩ := by decide +kernel
  go_quiet (fail)
  go_wp2
  go_ret2
  exact ⟨by first | rfl | (simp [hap]), below_drewN hbw3 _⟩

set_option maxRecDepth 100000 in
set_option maxHeartbeats 2000000 in
theorem row_0 (a : Option Addr) (cap : Nat) (w : World) (h : ReadsT w a cap T0) :
    Calls Tryz.prog 51 #[.agg #[.string ⟨#[50]⟩, .string ⟨#[]⟩, .int .i64 1], .slice a 6 cap] w (Told (.tuple #[.agg #[.string ⟨#[50]⟩, .string ⟨#[43, 49]⟩, .int .i64 5], .bool true]) w) := by
  have hbA := (Below.refl w.heap.size w).alloc (Nat.le_refl _) (.cells [.string ⟨#[50]⟩, .string ⟨#[]⟩, .int .i64 1].toArray 80)
  have hbB := hbA.alloc hbA.size (.cells [.string ⟨#[]⟩, .string ⟨#[]⟩, .int .i64 0].toArray 52)
  have hB := h.later hbB
  go_enter Tryz.func51, Tryz.ntmps51
  go_wp2_with fail
  have BA := (Blk.alloc (w := w) [.string ⟨#[50]⟩, .string ⟨#[]⟩, .int .i64 1] 80).alloc_old (.cells [.string ⟨#[]⟩, .string ⟨#[]⟩, .int .i64 0].toArray 52)
  have BB := Blk.alloc (w := w.alloc (.cells [.string ⟨#[50]⟩, .string ⟨#[]⟩, .int .i64 1].toArray 80)) [.string ⟨#[]⟩, .string ⟨#[]⟩, .int .i64 0] 52
  rw [show (w.alloc (.cells [.string ⟨#[50]⟩, .string ⟨#[]⟩, .int .i64 1].toArray 80)).heap.size = w.heap.size + 1 from by simp] at BB
  have hzB : ((w.alloc (.cells [.string ⟨#[50]⟩, .string ⟨#[]⟩, .int .i64 1].toArray 80)).alloc (.cells [.string ⟨#[]⟩, .string ⟨#[]⟩, .int .i64 0].toArray 52)).heap.size = w.heap.size + 2 := by simp
  refine (behind_1 _ _ _ hB).mono ?_
  rintro e w1 ⟨rfl, hb1⟩
  have B1 := BA.later hb1 (by omega)
  have R1 := BB.later hb1 (by omega)
  have hbw1 := hbB.trans (hb1.mono (by omega))
  clear BA BB hb1 hzB hB hbA hbB
  have a0 := B1.cell 0 _ rfl
  have r0 := R1.cell 0 _ rfl
  have r1 := R1.cell 1 _ rfl
  have r2 := R1.cell 2 _ rfl
  have y0 := R1.frozen 0
  have y1 := R1.frozen 1
  have y2 := R1.frozen 2
  go_wp2
  refine bodyPost_ret (v := .tuple #[.agg #[.string ⟨#[50]⟩, .string ⟨#[43, 49]⟩, .int .i64 5], .bool true]) (by simp [results, Tryz.results51, go_sem, r0, r1, r2]) rfl ⟨rfl, ?_⟩
  exact ((hbw1.setCell (p := ⟨w.heap.size + 1, 0, none⟩) (by show w.heap.size ≤ w.heap.size + 1; omega) _).setCell (p := ⟨w.heap.size + 1, 1, none⟩) (by show w.heap.size ≤ w.heap.size + 1; omega) _).setCell (p := ⟨w.heap.size + 1, 2, none⟩) (by show w.heap.size ≤ w.heap.size + 1; omega) _

set_option maxRecDepth 100000 in
set_option maxHeartbeats 2000000 in
theorem find_0 (a : Option Addr) (cap : Nat) (w : World) (h : ReadsT w a cap T0) :
    Calls Tryz.prog 29 #[.slice a 6 cap] w (Told (.tuple #[.agg #[.string ⟨#[50]⟩, .string ⟨#[43, 49]⟩, .int .i64 5], .bool true]) w) := by
  have hbA := (Below.refl w.heap.size w).alloc (Nat.le_refl _) (.cells [.string ⟨#[]⟩, .string ⟨#[]⟩, .int .i64 0].toArray 52)
  have hzA : (w.alloc (.cells [.string ⟨#[]⟩, .string ⟨#[]⟩, .int .i64 0].toArray 52)).heap.size = w.heap.size + 1 := by simp
  have hA := h.later hbA
  have BA : Blk (w.alloc (.cells [.string ⟨#[]⟩, .string ⟨#[]⟩, .int .i64 0].toArray 52)) w.heap.size [.string ⟨#[]⟩, .string ⟨#[]⟩, .int .i64 0] 52 := Blk.alloc _ _
  obtain ⟨b, rfl, hbl, hcap1, hcap2, hc⟩ := T0_cells hA
  have f0 := blanks_T0 _ cap _ hA 0 0 0 rfl (by decide) (by decide +kernel)
  have hcap1' : (6 : Int) ≤ (cap : Int) := by omega
  go_enter Tryz.func29, Tryz.ntmps29
  go_wp2_with fail
  generalize w.alloc (.cells [.string ⟨#[]⟩, .string ⟨#[]⟩, .int .i64 0].toArray 52) = w1 at *
  have c0 := hc 0 _ rfl
  have c1 := hc 1 _ rfl
  have c2 := hc 2 _ rfl
  have c3 := hc 3 _ rfl
  have c4 := hc 4 _ rfl
  have c5 := hc 5 _ rfl
  rw [nn] at c3
  rw [n2] at c4
  clear hc
  refine f0.mono ?_
  rintro e wq ⟨rfl, hwq⟩; replace hwq := hwq.symm; subst hwq
  go_wp2_with fail
  have hbB := hbA.alloc hbA.size (.cells [.int .i64 12, .int .i64 0, .int .i64 2, .string ⟨#[110]⟩, .string ⟨#[50]⟩, .bool true].toArray 32)
  have hB := hA.later ((Below.refl w1.heap.size w1).alloc (Nat.le_refl _) (.cells [.int .i64 12, .int .i64 0, .int .i64 2, .string ⟨#[110]⟩, .string ⟨#[50]⟩, .bool true].toArray 32))
  have BB := BA.alloc_old (.cells [.int .i64 12, .int .i64 0, .int .i64 2, .string ⟨#[110]⟩, .string ⟨#[50]⟩, .bool true].toArray 32)
  have hzB : (w1.alloc (.cells [.int .i64 12, .int .i64 0, .int .i64 2, .string ⟨#[110]⟩, .string ⟨#[50]⟩, .bool true].toArray 32)).heap.size = w1.heap.size + 1 := by simp
  refine (whole_t0n _).mono ?_
  rintro e w2 ⟨rfl, hb2⟩
  have h2 := hB.later hb2
  have B2 := BB.later hb2 (by omega)
  have hbw2 := hbB.trans (hb2.mono (by omega))
  have hz2 := hb2.size
  clear hB BB hb2 hbB c0 c1 c2 c3 c4 c5 hA BA hbA f0
  go_wp2_with fail
  refine (readHead_0 _ _ _ h2).mono ?_
  rintro e w3 ⟨rfl, hb3⟩
  have h3 := h2.later hb3
  have B3 := B2.later hb3 (by omega)
  have hbw3 := hbw2.trans (hb3.mono (by omega))
  have hz3 := hb3.size
  clear h2 B2 hbw2 hb3
  go_wp2_with fail
  have hb4 := (Below.refl w3.heap.size w3).alloc (Nat.le_refl _) (.cells [.string ⟨#[50]⟩, .string ⟨#[]⟩, .int .i64 1].toArray 80)
  have h4 := h3.later hb4
  have B4 := B3.later hb4 (by omega)
  have hbw4 := hbw3.trans (hb4.mono (by omega))
  have hz4 := hb4.size
  refine (row_0 _ _ _ h4).mono ?_
  rintro e w5 ⟨rfl, hb5⟩
  have B5 := B4.later hb5 (by omega)
  have hbw5 := hbw4.trans (hb5.mono (by omega))
  have r0 := B5.cell 0 _ rfl
  have r1 := B5.cell 1 _ rfl
  have r2 := B5.cell 2 _ rfl
  have y0 := B5.frozen 0
  have y1 := B5.frozen 1
  have y2 := B5.frozen 2
  clear h3 B3 hbw3 hb4 h4 B4 hbw4 hb5
  go_wp2
  refine bodyPost_ret (v := .tuple #[.agg #[.string ⟨#[50]⟩, .string ⟨#[43, 49]⟩, .int .i64 5], .bool true]) (by simp [results, Tryz.results29, go_sem, r0, r1, r2]) rfl ⟨rfl, ?_⟩
  exact ((hbw5.setCell (p := ⟨w.heap.size, 0, none⟩) (Nat.le_refl _) _).setCell (p := ⟨w.heap.size, 1, none⟩) (Nat.le_refl _) _).setCell (p := ⟨w.heap.size, 2, none⟩) (Nat.le_refl _) _
end
end Go.Proofs.YtickcbmfboajiaaGreatDoor
