/- Texts of mine in one: Lw Tn1 Tn2 Tn3 Tn4. -/
import Derived.Laws.IdiomStrings
import Derived.Test.YtelbjnanpmdnnaaQ14
import Derived.Test.YtelbjnanpmdnnaaQ02
import Derived.Shelf.Abstract
import Derived.Laws.RangeString
import Derived.FnLit
import Derived.Deep.LoopGhost
namespace Go.Proofs.Ytelbjnanpmdnnaa
section
open Go.RowKit
theorem conv_strW (s : ByteArray) (w : World) : ∃ cap w', (convert 9 22 (.string s)).run Try.prog w = .ok (.slice (some ⟨w.heap.size, 0, none⟩) s.size cap) w' ∧ s.size ≤ cap ∧ Below w.heap.size w w' ∧ w'.heap.size = w.heap.size + 1 ∧
    (∀ (j : Nat) (b : UInt8), (strB s)[j]? = some b → w'.cell? ⟨w.heap.size, j, none⟩ = some (.int .u8 b.toNat)) ∧ ∀ j, j < s.size → w'.frozen? ⟨w.heap.size, j, none⟩ = false := by
  have hh := heap_alloc_new w.drew (.cells (bytesRow s (grownCap w s.size 0 5)) 5 ((bytesRow s (grownCap w s.size 0 5)).size, (bytesRow s (grownCap w s.size 0 5)).size + 1))
  refine ⟨_, _, run_bytes_of_string w 9 22 5 s Try.underlying9 Try.underlying22 Try.underlying5, grownCap_ge _ _ _ _, ((Below.refl _ w).drew).alloc (Nat.le_refl _) _, by simp, fun j b hb => ?_, fun j hj => ?_⟩
  · have hj : j < (strB s).length := (List.getElem?_eq_some_iff.1 hb).1
    have hjs : j < s.data.size := by unfold strB at hj; simpa using hj
    have hv : (bytesRow s (grownCap w s.size 0 5))[j]? = some (Value.int .u8 b.toNat) := by
      unfold bytesRow
      rw [Array.getElem?_append_left (by simpa using hjs), Array.getElem?_map]
      have : s.data[j]? = some b := by rw [← hb]; unfold strB; simp
      rw [this]; rfl
    show World.cell? _ ⟨w.drew.heap.size, j, none⟩ = _
    simp only [World.cell?, hh]
    simpa using hv
  · have hsz : s.size ≤ (bytesRow s (grownCap w s.size 0 5)).size := by
      unfold bytesRow
      rw [Array.size_append, Array.size_map]
      exact Nat.le_add_right _ _
    show World.frozen? _ ⟨w.drew.heap.size, j, none⟩ = _
    simp only [World.frozen?, hh]
    simp
    omega
theorem conv3_any {P : Program} (w : World) (src e dst : TypeId) (hs : P.underlying src = some (.slice e)) (he : P.underlying e = some (.int .u8)) (hd : P.underlying dst = some .string)
    (a : Option Addr) (n cap : Nat) (zs : List Int) (hn : zs.length = n) (hr : Reads w .u8 a cap zs) : (convert src dst (.slice a n cap)).run P w = .ok (.string (strOfNums zs)) w := by
  by_cases h0 : zs = []
  · subst h0; subst hn
    rw [run_convert_bytes_string w src dst e _ _ cap hs he hd]
    cases a with
    | none => simp [Conv.bytesToString]; rfl
    | some ad => simp [Conv.bytesToString, loadCells, loadCellsFrom]; rfl
  · obtain ⟨b, off, rfl, hat⟩ := hr.2.2.resolve_left h0
    exact run_convert_bytes_arg w src e hs he b off n cap zs hn (fun i hi => by rw [List.getD_eq_getElem?_getD]; exact hat.2 i (by rw [hn]; exact hi)) dst hd
def lowL (bs : List UInt8) : List Int := bs.map fun b => smallF b.toNat
def lowS (s : ByteArray) : ByteArray := strOfNums (lowL (strB s))
theorem smallF_byte (b : UInt8) : 0 ≤ smallF b.toNat ∧ smallF b.toNat ≤ 255 := by
  have h := b.toNat_lt
  unfold smallF; split <;> omega
theorem lowL_len (s : ByteArray) : (lowL (strB s)).length = s.size := by unfold lowL; rw [List.length_map, strB_len]
set_option maxRecDepth 100000 in
set_option maxHeartbeats 1000000 in
theorem lower_any (s : ByteArray) (w : World) (hsz : s.size ≤ 9223372036854775807) : Calls Try.prog 40 #[.string s] w (Told (.string (lowS s)) w) := by
  obtain ⟨cap, w2, hrun, hcap, hb2, hz2, hcells, hfz⟩ := conv_strW s w
  have hcs : ∀ (j : Nat), j < s.size → ∃ b : UInt8, (strB s)[j]? = some b := fun j hj => ⟨_, List.getElem?_eq_getElem (by rw [strB_len]; exact hj)⟩
  have hcap' : (s.size : Int) ≤ (cap : Int) := by omega
  have HC := Lib.hid hcells
  have HF := Lib.hid hfz
  have HS := Lib.hid hcs
  clear hcells hfz hcs
  go_enter Try.func40, Try.ntmps40
  go_wp2_with fail
  go_loopw [10] (fun i wr => ∃ k : Nat, k ≤ s.size ∧ i = .int .i64 k ∧ Below w.heap.size w wr ∧ Hid (∀ (j : Nat) (b : UInt8), (strB s)[j]? = some b → wr.cell? ⟨w.heap.size, j, none⟩ = some (.int .u8 (if j < k then smallF b.toNat else b.toNat))) ∧ Hid (∀ j, j < s.size → wr.frozen? ⟨w.heap.size, j, none⟩ = false)) (fun i _ => s.size - (intOf i).toNat)
  case atStart => exact ⟨0, by omega, rfl, hb2, Lib.hid (fun j b hb => by simpa using HC.out j b hb), HF⟩
  case round =>
    obtain ⟨k, hk, rfl, hbr, hc, hf⟩ := hrel
    by_cases hlt : k < s.size
    · obtain ⟨b, hb⟩ := HS.out k hlt
      have c0 : wr.cell? ⟨w.heap.size, k, none⟩ = some (.int .u8 b.toNat) := by have := hc.out k b hb; rwa [if_neg (Nat.lt_irrefl k)] at this
      have f0 := hf.out k hlt
      have hbl := b.toNat_lt
      have hlt' : (k : Int) < (s.size : Int) := by omega
      have hsm := fun w => small_any (b.toNat : Int) w ⟨by omega, by omega⟩
      have hw : wrap64 (b.toNat : Int) = b.toNat := by unfold wrap64; omega
      have hx := smallF_byte b
      have HN : Hid (∀ (j : Nat) (d : UInt8), (strB s)[j]? = some d → (wr.setCell ⟨w.heap.size, k, none⟩ (.int .u8 (smallF b.toNat))).cell? ⟨w.heap.size, j, none⟩ = some (.int .u8 (if j < k + 1 then smallF d.toNat else d.toNat))) := by
        refine Lib.hid (fun j d hd => ?_)
        by_cases hj : j = k
        · subst hj
          obtain rfl : d = b := by rw [hb] at hd; exact (Option.some.inj hd).symm
          rw [World.cell?_setCell_same' _ _ _ (by rw [c0]; rfl), if_pos (Nat.lt_succ_self _)]
        · rw [World.cell?_setCell_other _ _ _ _ (by intro h; injection h with _ h2 _; omega), hc.out j d hd]
          by_cases h2 : j < k
          · rw [if_pos h2, if_pos (by omega)]
          · rw [if_neg h2, if_neg (by omega)]
      have HG : Hid (∀ j, j < s.size → (wr.setCell ⟨w.heap.size, k, none⟩ (.int .u8 (smallF b.toNat))).frozen? ⟨w.heap.size, j, none⟩ = false) := Lib.hid (fun j hj => by rw [World.frozen?_setCell]; exact hf.out j hj)
      have hb3 : Below w.heap.size w (wr.setCell ⟨w.heap.size, k, none⟩ (.int .u8 (smallF b.toNat))) := hbr.setCell (p := ⟨w.heap.size, k, none⟩) (Nat.le_refl _) _
      clear hc hf HC HF HS
      generalize smallF b.toNat = x at *
      go_wp2_with (go_at_call 65; refine (hsm _).mono ?_; rintro e wq ⟨rfl, hwq⟩; replace hwq := hwq.symm; subst hwq)
      go_roundw
      case rel => exact ⟨k + 1, by omega, by go_num, hb3, HN, HG⟩
      case measure => simp [intOf]; omega
    · have hke : k = s.size := by omega
      subst hke
      have cv := run_convert_bytes_arg wr 22 5 Try.underlying22 Try.underlying5 w.heap.size 0 s.size cap (lowL (strB s)) (lowL_len s) (fun i hi => by
        obtain ⟨b, hb⟩ := HS.out i hi
        have h := hc.out i b hb
        rw [if_pos hi] at h
        rw [Nat.zero_add, h]
        unfold lowL
        rw [List.getD_eq_getElem?_getD, List.getElem?_map, hb]
        rfl) 9 Try.underlying9
      clear hc hf HC HF HS
      have hL : strOfNums (lowL (strB s)) = lowS s := rfl
      rw [hL] at cv
      go_wp2
      go_ret
      exact ⟨rfl, hbr⟩
theorem low_snoc (s : ByteArray) (k : Nat) (h : k < s.size) : (lowL (strB s)).take (k + 1) = (lowL (strB s)).take k ++ [smallF (((s[k]'h).toNat : Nat) : Int)] := by
  have hk : (lowL (strB s))[k]? = some (smallF (((s[k]'h).toNat : Nat) : Int)) := by
    unfold lowL strB
    rw [List.getElem?_map]
    have : s.data.toList[k]? = some (s[k]'h) := by
      rw [Array.getElem?_toList, Array.getElem?_eq_getElem (by exact h)]; rfl
    rw [this]; rfl
  rw [List.take_add_one, hk]; rfl
set_option maxRecDepth 100000 in
set_option maxHeartbeats 2000000 in
theorem rlower_any (s : ByteArray) (w : World) (hs : s.size ≤ 1000000) : Calls Try.prog 37 #[.string s] w (Told (.string (lowS s)) w) := by
  obtain ⟨i0, hi, hz0, hz1, hz2⟩ := info_parts Try.info5
  have own0 := World.ownsRow_made (base := w.heap.size) (e := 5) (size := 1) w #[] 0 (Nat.le_refl _) (by simp [maxLen]) (by simp)
  go_enter Try.func37, Try.ntmps37
  go_wp2
  go_loopw [3, 4] (fun v i wr => ∃ k : Nat, k ≤ s.size ∧ i = .int .i64 k ∧ wr.ownsRow w.heap.size 5 1 v k (((lowL (strB s)).take k).map (Value.int .u8)) ∧ Below w.heap.size w wr)
    (fun _ i _ => s.size - (intOf i).toNat)
  case atStart => exact ⟨0, by omega, rfl, own0, (Below.refl _ w).alloc (Nat.le_refl _) _⟩
  case round =>
    obtain ⟨k, hk, rfl, hown, hbl⟩ := hrel
    by_cases hlt : k < s.size
    · have hlt' : (k : Int) < (s.size : Int) := by omega
      have HT := Lib.hid (low_snoc s k hlt)
      have hll : ((lowL (strB s)).take k).length = k := by rw [List.length_take, lowL_len]; omega
      have hbl8 := (s[k]'hlt).toNat_lt
      have hsm := fun w => rsmall_any (((s[k]'hlt).toNat : Nat) : Int) w ⟨by omega, by omega⟩
      have hw : wrap64 (((s[k]'hlt).toNat : Nat) : Int) = (s[k]'hlt).toNat := by unfold wrap64; omega
      have hx := smallF_byte (s[k]'hlt)
      have hsz := hbl.size
      have HLL := Lib.hid hll; clear hll
      generalize (lowL (strB s)).take k = acc at *
      generalize smallF (((s[k]'hlt).toNat : Nat) : Int) = x at *
      go_wp2_with (first
        | (go_at_call 63; refine (hsm _).mono ?_; rintro e wq ⟨rfl, hwq⟩; replace hwq := hwq.symm; subst hwq)
        | (at_builtin; refine wpList_append_reads rfl _ _ 22 rfl w.heap.size 5 i0 .u8 1 Try.underlying22 hi hz0 hz1 hz2 _ k acc rfl (hown.alloc _) HLL.out (some ⟨wr.heap.size, 0, none⟩) 1 1 [x] rfl rfl (reads_new wr .u8 _ 5 1 rfl (by unfold maxLen; omega)) (fun h => by cases h) (by unfold maxLen; omega) (by omega) (by simp <;> omega) ?_; intro v' w2 hown2 hgrow2))
      have hbl2 : Below w.heap.size w w2 := (hbl.alloc hsz _).grown hgrow2 (by simp <;> omega) (fun j hj => (hown.lt j hj).1)
      go_roundw
      case rel => exact ⟨k + 1, by omega, by go_num, by rw [HT.out]; have := hown2; rw [List.length_append, HLL.out] at this; exact this, hbl2⟩
      case measure => simp [intOf]; omega
    · obtain rfl : k = s.size := by omega
      have he : (lowL (strB s)).take s.size = lowL (strB s) := by rw [List.take_of_length_le (by rw [lowL_len]; omega)]
      have HL := Lib.hid (lowL_len s)
      rw [he] at hown
      have hS : strOfNums (lowL (strB s)) = lowS s := rfl
      generalize lowL (strB s) = ys at *
      rw [← HL.out] at hown
      obtain ⟨a, cp, hv, hrd⟩ := Reads.of_owns hown
      rw [HL.out] at hv
      clear he hown
      subst hv
      have cv := conv3_any wr 22 5 9 Try.underlying22 Try.underlying5 Try.underlying9 a s.size cp ys HL.out hrd
      rw [hS] at cv
      go_wp2
      go_ret
      exact ⟨rfl, hbl⟩
def sameB (a b : ByteArray) : Bool := decide (lowL (strB a) = lowL (strB b))
theorem sameB_len {a b : ByteArray} (h : a.size ≠ b.size) : sameB a b = false := by
  unfold sameB
  refine decide_eq_false (fun e => h ?_)
  rw [← lowL_len a, ← lowL_len b, e]
theorem lowL_at (s : ByteArray) (k : Nat) (h : k < s.size) : (lowL (strB s))[k]? = some (smallF (((s[k]'h).toNat : Nat) : Int)) := by
  unfold lowL strB
  rw [List.getElem?_map]
  have : s.data.toList[k]? = some (s[k]'h) := by
    rw [Array.getElem?_toList, Array.getElem?_eq_getElem (by exact h)]; rfl
  rw [this]; rfl
theorem sameB_not {a b : ByteArray} {k : Nat} (ha : k < a.size) (hb : k < b.size) (h : smallF (((a[k]'ha).toNat : Nat) : Int) ≠ smallF (((b[k]'hb).toNat : Nat) : Int)) : sameB a b = false := by
  unfold sameB
  refine decide_eq_false (fun e => h ?_)
  have h1 := lowL_at a k ha
  rw [e, lowL_at b k hb] at h1
  exact (Option.some.inj h1).symm
set_option maxRecDepth 100000 in
set_option maxHeartbeats 2000000 in
theorem same_any (a b : ByteArray) (w : World) (hs : a.size ≤ 1000000) : Calls Try.prog 82 #[.string a, .string b] w (Told (.bool (sameB a b)) w) := by
  by_cases hl : a.size = b.size
  · have n0 : ((a.size : Int) == (b.size : Int)) = true := beq_iff_eq.2 (by omega)
    go_enter Try.func82, Try.ntmps82
    go_wp2
    go_loopw [13] (fun i wr => ∃ k : Nat, k ≤ a.size ∧ i = .int .i64 k ∧ Hid ((lowL (strB a)).take k = (lowL (strB b)).take k) ∧ Below w.heap.size w wr) (fun i _ => a.size - (intOf i).toNat)
    case atStart => exact ⟨0, by omega, rfl, Lib.hid rfl, Below.refl _ _⟩
    case round =>
      obtain ⟨k, hk, rfl, ht, hbl⟩ := hrel
      by_cases hlt : k < a.size
      · have hltb : k < b.size := by omega
        have hlt' : (k : Int) < (a.size : Int) := by omega
        have ha8 := (a[k]'hlt).toNat_lt
        have hb8 := (b[k]'hltb).toNat_lt
        have hA := fun w => small_any (((a[k]'hlt).toNat : Nat) : Int) w ⟨by omega, by omega⟩
        have hB := fun w => small_any (((b[k]'hltb).toNat : Nat) : Int) w ⟨by omega, by omega⟩
        have hwa : wrap64 (((a[k]'hlt).toNat : Nat) : Int) = (a[k]'hlt).toNat := by unfold wrap64; omega
        have hwb : wrap64 (((b[k]'hltb).toNat : Nat) : Int) = (b[k]'hltb).toNat := by unfold wrap64; omega
        have HT : Hid (smallF (((a[k]'hlt).toNat : Nat) : Int) = smallF (((b[k]'hltb).toNat : Nat) : Int) → (lowL (strB a)).take (k + 1) = (lowL (strB b)).take (k + 1)) := Lib.hid (fun e => by rw [low_snoc a k hlt, low_snoc b k hltb, ht.out, e])
        have HN : Hid (smallF (((a[k]'hlt).toNat : Nat) : Int) ≠ smallF (((b[k]'hltb).toNat : Nat) : Int) → sameB a b = false) := Lib.hid (fun h => sameB_not hlt hltb h)
        clear ht
        generalize smallF (((a[k]'hlt).toNat : Nat) : Int) = x at *
        generalize smallF (((b[k]'hltb).toNat : Nat) : Int) = y at *
        by_cases hxy : x = y
        · have hT := Lib.hid (HT.out hxy)
          clear HT HN
          subst hxy
          have n1 : (x == x) = true := beq_self_eq_true x
          go_wp2_with fail
          go_quiet ((go_at_call 65; first | with_reducible exact Calls.quiet_of_same (hA _) | with_reducible exact Calls.quiet_of_same (hB _)))
          go_wp2
          go_roundw
          case rel => exact ⟨k + 1, by omega, by go_num, hT, below_drewN hbl _⟩
          case measure => simp [intOf]; omega
        · have hN := HN.out hxy
          have n1 : (x == y) = false := beq_eq_false_iff_ne.2 hxy
          clear HT HN hxy
          go_wp2_with fail
          go_quiet ((go_at_call 65; first | with_reducible exact Calls.quiet_of_same (hA _) | with_reducible exact Calls.quiet_of_same (hB _)))
          go_wp2
          go_ret
          exact ⟨by rw [hN]; rfl, below_drewN hbl _⟩
      · obtain rfl : k = a.size := by omega
        have hS : sameB a b = true := by
          unfold sameB
          have e := ht.out
          rw [List.take_of_length_le (by rw [lowL_len]; omega), List.take_of_length_le (by rw [lowL_len]; omega)] at e
          exact decide_eq_true e
        clear ht
        go_wp2
        go_ret
        exact ⟨by rw [hS]; rfl, hbl⟩
  · have n0 : ((a.size : Int) == (b.size : Int)) = false := beq_eq_false_iff_ne.2 (by omega)
    have hN := sameB_len hl
    go_enter Try.func82, Try.ntmps82
    go_wp2
    go_ret
    exact ⟨by rw [hN]; rfl, Below.refl _ _⟩
end

section
open Go.RowKit Go.Shelf
set_option linter.unusedVariables false
theorem spacesF_stop {l : List Int} {j : Nat} (h : spB l j = false) : spacesF l j = j := spacesGo_stop _ h
section
variable {a : Option Addr} {n cap : Nat} {l : List Int} {w : World} (i : Int) (k : Nat)
end
end

section
open Go.RowKit Go.Shelf
set_option linter.unusedVariables false
section
variable {a : Option Addr} {n cap : Nat} {l : List Int} {w : World} (i : Int) (k : Nat)
end
theorem skipGo_ge (l : List Int) : ∀ (f j : Nat), j ≤ l.length → min (j + 2) l.length ≤ skipGo f l j ∧ skipGo f l j ≤ l.length
  | 0, j, _ => ⟨Nat.le_refl _, Nat.min_le_right _ _⟩
  | f + 1, j, hj => by
    rw [skipGo]
    by_cases h1 : l.length ≤ j
    · rw [if_pos h1]; exact ⟨Nat.le_refl _, Nat.min_le_right _ _⟩
    · rw [if_neg h1]
      by_cases h2 : (isB l j 42 && isB l (j + 1) 47) = true
      · rw [if_pos h2]; exact ⟨Nat.le_refl _, Nat.min_le_right _ _⟩
      · rw [if_neg h2]
        have := skipGo_ge l f (j + 1) (by omega)
        exact ⟨by omega, this.2⟩
theorem openB_lt {l : List Int} {j : Nat} (h : openB l j = true) : j + 2 ≤ l.length := by
  unfold openB at h
  rw [Bool.and_eq_true] at h
  exact lt_of_isB h.2 (by decide)
end
end Go.Proofs.Ytelbjnanpmdnnaa
