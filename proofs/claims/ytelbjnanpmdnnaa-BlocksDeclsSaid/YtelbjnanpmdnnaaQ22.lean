/- Texts of mine in one: Is Is2 Whole4 Atoi Digits. -/
import Derived.Test.YtelbjnanpmdnnaaQ02
import Derived.Test.YtelbjnanpmdnnaaQ14
import Derived.Test.YtelbjnanpmdnnaaQ21
namespace Go.Proofs.Ytelbjnanpmdnnaa
section
open Go.RowKit
def valD (ds : List UInt8) (acc : Int) : Int := ds.foldl (fun n b => n * 10 + ((b.toNat : Int) - 48)) acc
def valS (s : ByteArray) : Int := if firstB s 45 then - valD (strB (tailS s)) 0 else if firstB s 43 then valD (strB (tailS s)) 0 else valD (strB s) 0
theorem first_get (s : ByteArray) (h1 : 0 < s.size) : (strB s)[0]? = some (s[0]'h1) := by
  unfold strB
  rw [Array.getElem?_toList]
  exact Array.getElem?_eq_getElem h1
theorem first_of (s : ByteArray) (h1 : 0 < s.size) (c : UInt8) : firstB s c = decide (s[0]'h1 = c) := by
  unfold firstB; rw [first_get s h1]; simp
end

section
open Go.RowKit
theorem valD_cons (b : UInt8) (ds : List UInt8) (acc : Int) : valD (b :: ds) acc = valD ds (acc * 10 + ((b.toNat : Int) - 48)) := rfl
theorem strB_append (a b : ByteArray) : strB (a ++ b) = strB a ++ strB b := by
  unfold strB
  rw [show (a ++ b).data = a.data ++ b.data from ByteArray.data_append, Array.toList_append]
def Digs (s : ByteArray) (n : Int) : Prop := 0 < s.size ∧ s.size ≤ 10 ∧ bytesAll s = true ∧ valD (strB s) 0 = n
theorem Digs.num {s : ByteArray} {n : Int} (h : Digs s n) : numB s = true ∧ signedB s = false ∧ valS s = n := by
  obtain ⟨h0, h1, ha, hv⟩ := h
  have hd : digitB ((s[0]'h0).toNat : Int) = true := by
    unfold bytesAll at ha
    exact List.all_eq_true.1 ha _ (List.mem_of_getElem? (first_get s h0))
  have n45 : s[0]'h0 ≠ 45 := fun e => by rw [e] at hd; exact absurd hd (by decide)
  have n43 : s[0]'h0 ≠ 43 := fun e => by rw [e] at hd; exact absurd hd (by decide)
  have hs : signedB s = false := by unfold signedB; rw [first_of s h0, first_of s h0, decide_eq_false n45, decide_eq_false n43]; rfl
  refine ⟨by unfold numB; rw [hs, if_neg (by decide), ha, decide_eq_true h0]; rfl, hs, ?_⟩
  unfold valS
  rw [first_of s h0, first_of s h0, if_neg (by simpa using n45), if_neg (by simpa using n43)]
  exact hv
theorem tailS_bytes (x : ByteArray) : strB (tailS x) = (strB x).drop 1 := by
  unfold tailS strB
  rw [ByteArray.data_extract, Array.toList_extract]
  show ((x.data.toList).drop 1).take (x.size - 1) = _
  rw [List.take_of_length_le (by rw [List.length_drop, Array.length_toList]; exact Nat.le_refl _)]
theorem Digs.signed {s z : ByteArray} {n : Int} (h : Digs s n) (c : UInt8) (hc : c = 43 ∨ c = 45) (zs : List UInt8) (hz : strB z = c :: zs) (hzs : ∀ b ∈ zs, b = 48) :
    numB (z ++ s) = true ∧ valS (z ++ s) = (if c = 45 then -n else n) := by
  obtain ⟨h0, h1, ha, hv⟩ := h
  have hB : strB (z ++ s) = c :: (zs ++ strB s) := by rw [strB_append, hz]; rfl
  have hsz : 0 < (z ++ s).size := by rw [ByteArray.size_append]; omega
  have hf : ∀ d : UInt8, firstB (z ++ s) d = decide (c = d) := fun d => by unfold firstB; rw [hB]; simp
  have htl : strB (tailS (z ++ s)) = zs ++ strB s := by rw [tailS_bytes, hB]; rfl
  have hts : (tailS (z ++ s)).size = (zs ++ strB s).length := by rw [← strB_len, htl]
  have hsg : signedB (z ++ s) = true := by unfold signedB; rw [hf, hf]; rcases hc with rfl | rfl <;> decide
  have hall : bytesAll (tailS (z ++ s)) = true := by
    unfold bytesAll
    rw [htl, List.all_append]
    unfold bytesAll at ha
    rw [ha, Bool.and_true, List.all_eq_true]
    intro b hb
    rw [hzs b hb]
    decide
  have hval : valD (strB (tailS (z ++ s))) 0 = n := by
    rw [htl]
    have : ∀ (l : List UInt8), (∀ b ∈ l, b = 48) → valD (l ++ strB s) 0 = valD (strB s) 0 := by
      intro l
      induction l with
      | nil => intro _; rfl
      | cons b l ih =>
        intro hl
        rw [List.cons_append, valD_cons, hl b (by simp)]
        exact ih fun x hx => hl x (by simp [hx])
    rw [this zs hzs, hv]
  refine ⟨?_, ?_⟩
  · unfold numB
    rw [hsg, if_pos rfl, hall, hts, Bool.true_and]
    exact decide_eq_true (by rw [List.length_append, strB_len]; omega)
  · unfold valS
    rw [hf, hf]
    rcases hc with rfl | rfl
    · rw [if_neg (by decide), if_pos (by decide), if_neg (by decide), hval]
    · rw [if_pos (by decide), if_pos rfl, hval]
end
end Go.Proofs.Ytelbjnanpmdnnaa
