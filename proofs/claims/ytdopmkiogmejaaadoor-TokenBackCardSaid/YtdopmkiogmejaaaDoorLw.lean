/- Small letters of any text; whether two texts are one but for letters: walks of both sides. (Out of XLower, XRLower, XSameT, XAnb2, XR5, for seats that have no anb.) -/
import Derived.Test.YtdopmkiogmejaaaDoorName
import Derived.Test.YtdopmkiogmejaaaDoorVx
import Derived.Laws.IdiomStrings
namespace Go.Proofs.YtdopmkiogmejaaaDoor
open Go.RowKit

/-- What the conversion of a string to bytes lays: it may be written. -/
theorem conv_strW (s : ByteArray) (w : World) : ∃ cap w', (convert 9 24 (.string s)).run Tryd.prog w = .ok (.slice (some ⟨w.heap.size, 0, none⟩) s.size cap) w' ∧ s.size ≤ cap ∧ Below w.heap.size w w' ∧ w'.heap.size = w.heap.size + 1 ∧
    (∀ (j : Nat) (b : UInt8), (strB s)[j]? = some b → w'.cell? ⟨w.heap.size, j, none⟩ = some (.int .u8 b.toNat)) ∧ ∀ j, j < s.size → w'.frozen? ⟨w.heap.size, j, none⟩ = false := by
  have hh := heap_alloc_new w.drew (.cells (bytesRow s (grownCap w s.size 0 5)) 5 ((bytesRow s (grownCap w s.size 0 5)).size, (bytesRow s (grownCap w s.size 0 5)).size + 1))
  refine ⟨_, _, run_bytes_of_string w 9 24 5 s Tryd.underlying9 Tryd.underlying24 Tryd.underlying5, grownCap_ge _ _ _ _, ((Below.refl _ w).drew).alloc (Nat.le_refl _) _, by simp, fun j b hb => ?_, fun j hj => ?_⟩
  · have hj : j < (strB s).length := (List.getElem?_eq_some_iff.1 hb).1
    have hjs : j < s.data.size := by unfold strB at hj; simpa using hj
    have hv : (bytesRow s (grownCap w s.size 0 5))[j]? = some (Value.int .u8 b.toNat) := by
      unfold bytesRow
      rw [Array.getElem?_append_left (by simpa using hjs), Array.getElem?_map]
      have : s.data[j]? = some b := by rw [← hb]; unfold strB; simp
      rw [this]; rfl
    show World.cell? _ ⟨w.drew.heap.size, j, none⟩ = _
    simp only [World.cell?, hh]
    simpa using hv
  · have hsz : s.size ≤ (bytesRow s (grownCap w s.size 0 5)).size := by
      unfold bytesRow
      rw [Array.size_append, Array.size_map]
      exact Nat.le_add_right _ _
    show World.frozen? _ ⟨w.drew.heap.size, j, none⟩ = _
    simp only [World.frozen?, hh]
    simp
    omega

theorem conv3_any {P : Program} (w : World) (src e dst : TypeId) (hs : P.underlying src = some (.slice e)) (he : P.underlying e = some (.int .u8)) (hd : P.underlying dst = some .string)
    (a : Option Addr) (n cap : Nat) (zs : List Int) (hn : zs.length = n) (hr : Reads w .u8 a cap zs) : (convert src dst (.slice a n cap)).run P w = .ok (.string (strOfNums zs)) w := by
  by_cases h0 : zs = []
  · subst h0; subst hn
    rw [run_convert_bytes_string w src dst e _ _ cap hs he hd]
    cases a with
    | none => simp [Conv.bytesToString]; rfl
    | some ad => simp [Conv.bytesToString, loadCells, loadCellsFrom]; rfl
  · obtain ⟨b, off, rfl, hat⟩ := hr.2.2.resolve_left h0
    exact run_convert_bytes_arg w src e hs he b off n cap zs hn (fun i hi => by rw [List.getD_eq_getElem?_getD]; exact hat.2 i (by rw [hn]; exact hi)) dst hd

/-- The small letters of bytes. -/
def lowL (bs : List UInt8) : List Int := bs.map fun b => smallF b.toNat
/-- A text with small letters. -/
def lowS (s : ByteArray) : ByteArray := strOfNums (lowL (strB s))
theorem smallF_byte (b : UInt8) : 0 ≤ smallF b.toNat ∧ smallF b.toNat ≤ 255 := by
  have h := b.toNat_lt
  unfold smallF; split <;> omega
theorem lowL_len (s : ByteArray) : (lowL (strB s)).length = s.size := by unfold lowL; rw [List.length_map, strB_len]
theorem lowS_size (s : ByteArray) : (lowS s).size = s.size := by unfold lowS; rw [strOfNums_size, lowL_len]

theorem low_snoc (s : ByteArray) (k : Nat) (h : k < s.size) : (lowL (strB s)).take (k + 1) = (lowL (strB s)).take k ++ [smallF (((s[k]'h).toNat : Nat) : Int)] := by
  have hk : (lowL (strB s))[k]? = some (smallF (((s[k]'h).toNat : Nat) : Int)) := by
    unfold lowL strB
    rw [List.getElem?_map]
    have : s.data.toList[k]? = some (s[k]'h) := by
      rw [Array.getElem?_toList, Array.getElem?_eq_getElem (by exact h)]; rfl
    rw [this]; rfl
  rw [List.take_add_one, hk]; rfl

def sameB (a b : ByteArray) : Bool := decide (lowL (strB a) = lowL (strB b))
theorem sameB_len {a b : ByteArray} (h : a.size ≠ b.size) : sameB a b = false := by
  unfold sameB
  refine decide_eq_false (fun e => h ?_)
  rw [← lowL_len a, ← lowL_len b, e]
theorem lowL_at (s : ByteArray) (k : Nat) (h : k < s.size) : (lowL (strB s))[k]? = some (smallF (((s[k]'h).toNat : Nat) : Int)) := by
  unfold lowL strB
  rw [List.getElem?_map]
  have : s.data.toList[k]? = some (s[k]'h) := by
    rw [Array.getElem?_toList, Array.getElem?_eq_getElem (by exact h)]; rfl
  rw [this]; rfl
theorem sameB_not {a b : ByteArray} {k : Nat} (ha : k < a.size) (hb : k < b.size) (h : smallF (((a[k]'ha).toNat : Nat) : Int) ≠ smallF (((b[k]'hb).toNat : Nat) : Int)) : sameB a b = false := by
  unfold sameB
  refine decide_eq_false (fun e => h ?_)
  have h1 := lowL_at a k ha
  rw [e, lowL_at b k hb] at h1
  exact (Option.some.inj h1).symm

set_option maxRecDepth 100000 in
set_option maxHeartbeats 2000000 in
theorem same_any (a b : ByteArray) (w : World) (hs : a.size ≤ 1000000) : Calls Tryd.prog 56 #[.string a, .string b] w (Told (.bool (sameB a b)) w) := by
  by_cases hl : a.size = b.size
  · have n0 : ((a.size : Int) == (b.size : Int)) = true := beq_iff_eq.2 (by omega)
    go_enter Tryd.func56, Tryd.ntmps56
    go_wp2
    go_loopw [13] (fun i wr => ∃ k : Nat, k ≤ a.size ∧ i = .int .i64 k ∧ Hid ((lowL (strB a)).take k = (lowL (strB b)).take k) ∧ Below w.heap.size w wr) (fun i _ => a.size - (intOf i).toNat)
    case atStart => exact ⟨0, by omega, rfl, Lib.hid rfl, Below.refl _ _⟩
    case round =>
      obtain ⟨k, hk, rfl, ht, hbl⟩ := hrel
      by_cases hlt : k < a.size
      · have hltb : k < b.size := by omega
        have hlt' : (k : Int) < (a.size : Int) := by omega
        have ha8 := (a[k]'hlt).toNat_lt
        have hb8 := (b[k]'hltb).toNat_lt
        have hA := fun w => small_any (((a[k]'hlt).toNat : Nat) : Int) w ⟨by omega, by omega⟩
        have hB := fun w => small_any (((b[k]'hltb).toNat : Nat) : Int) w ⟨by omega, by omega⟩
        have hwa : wrap64 (((a[k]'hlt).toNat : Nat) : Int) = (a[k]'hlt).toNat := by unfold wrap64; omega
        have hwb : wrap64 (((b[k]'hltb).toNat : Nat) : Int) = (b[k]'hltb).toNat := by unfold wrap64; omega
        have HT : Hid (smallF (((a[k]'hlt).toNat : Nat) : Int) = smallF (((b[k]'hltb).toNat : Nat) : Int) → (lowL (strB a)).take (k + 1) = (lowL (strB b)).take (k + 1)) := Lib.hid (fun e => by rw [low_snoc a k hlt, low_snoc b k hltb, ht.out, e])
        have HN : Hid (smallF (((a[k]'hlt).toNat : Nat) : Int) ≠ smallF (((b[k]'hltb).toNat : Nat) : Int) → sameB a b = false) := Lib.hid (fun h => sameB_not hlt hltb h)
        clear ht
        generalize smallF (((a[k]'hlt).toNat : Nat) : Int) = x at *
        generalize smallF (((b[k]'hltb).toNat : Nat) : Int) = y at *
        by_cases hxy : x = y
        · have hT := Lib.hid (HT.out hxy)
          clear HT HN
          subst hxy
          have n1 : (x == x) = true := beq_self_eq_true x
          go_wp2_with fail
          go_quiet ((go_at_call 64; first | with_reducible exact Calls.quiet_of_same (hA _) | with_reducible exact Calls.quiet_of_same (hB _)))
          go_wp2
          go_roundw
          case rel => exact ⟨k + 1, by omega, by go_num, hT, below_drewN hbl _⟩
          case measure => simp [intOf]; omega
        · have hN := HN.out hxy
          have n1 : (x == y) = false := beq_eq_false_iff_ne.2 hxy
          clear HT HN hxy
          go_wp2_with fail
          go_quiet ((go_at_call 64; first | with_reducible exact Calls.quiet_of_same (hA _) | with_reducible exact Calls.quiet_of_same (hB _)))
          go_wp2
          go_ret
          exact ⟨by rw [hN]; rfl, below_drewN hbl _⟩
      · obtain rfl : k = a.size := by omega
        have hS : sameB a b = true := by
          unfold sameB
          have e := ht.out
          rw [List.take_of_length_le (by rw [lowL_len]; omega), List.take_of_length_le (by rw [lowL_len]; omega)] at e
          exact decide_eq_true e
        clear ht
        go_wp2
        go_ret
        exact ⟨by rw [hS]; rfl, hbl⟩
  · have n0 : ((a.size : Int) == (b.size : Int)) = false := beq_eq_false_iff_ne.2 (by omega)
    have hN := sameB_len hl
    go_enter Tryd.func56, Tryd.ntmps56
    go_wp2
    go_ret
    exact ⟨by rw [hN]; rfl, Below.refl _ _⟩

theorem lowL_low (bs : List UInt8) : (lowL bs).map (fun n => UInt8.ofNat n.toNat) = bs.map lowB := by
  unfold lowL
  rw [List.map_map]
  refine List.map_congr_left (fun b _ => ?_)
  have h : ∀ b : Fin 256, ((fun n : Int => UInt8.ofNat n.toNat) ∘ fun b : UInt8 => smallF (b.toNat : Int)) (UInt8.ofNat b.val) = lowB (UInt8.ofNat b.val) := by decide +kernel
  have := h ⟨b.toNat, b.toNat_lt⟩
  simpa using this
theorem strB_low (s : ByteArray) : strB (lowS s) = (strB s).map lowB := lowL_low (strB s)
theorem sameB_low (a b : ByteArray) : sameB a b = decide ((strB a).map lowB = (strB b).map lowB) := by
  unfold sameB
  rw [Bool.eq_iff_iff, decide_eq_true_eq, decide_eq_true_eq, ← lowL_low, ← lowL_low]
  constructor
  · intro h; rw [h]
  · intro h
    have hb : ∀ bs : List UInt8, lowL bs = ((lowL bs).map fun n => UInt8.ofNat n.toNat).map fun b => (b.toNat : Int) := by
      intro bs
      unfold lowL
      rw [List.map_map, List.map_map]
      refine List.map_congr_left (fun b _ => ?_)
      have h : ∀ b : Fin 256, smallF ((UInt8.ofNat b.val).toNat : Int) = ((fun b : UInt8 => (b.toNat : Int)) ∘ (fun n : Int => UInt8.ofNat n.toNat) ∘ fun b : UInt8 => smallF (b.toNat : Int)) (UInt8.ofNat b.val) := by decide +kernel
      have := h ⟨b.toNat, b.toNat_lt⟩
      simpa using this
    rw [hb (strB a), h, ← hb]
end Go.Proofs.YtdopmkiogmejaaaDoor
