/- Texts of mine in one: Lw Tn1 Tn2 Ba0 Ba1. -/
import Derived.Laws.IdiomStrings
import Derived.Test.YtelbjnanpmdnnaaQ13
import Derived.Test.YtelbjnanpmdnnaaQ01
import Derived.Shelf.Abstract
import Derived.Laws.RangeString
import Derived.FnLit
import Derived.Test.YtelbjnanpmdnnaaQ14
import Derived.Deep.LoopGhost
namespace Go.Proofs.Ytelbjnanpmdnnaa
section
open Go.RowKit
theorem conv_strW (s : ByteArray) (w : World) : ∃ cap w', (convert 9 22 (.string s)).run Try.prog w = .ok (.slice (some ⟨w.heap.size, 0, none⟩) s.size cap) w' ∧ s.size ≤ cap ∧ Below w.heap.size w w' ∧ w'.heap.size = w.heap.size + 1 ∧
    (∀ (j : Nat) (b : UInt8), (strB s)[j]? = some b → w'.cell? ⟨w.heap.size, j, none⟩ = some (.int .u8 b.toNat)) ∧ ∀ j, j < s.size → w'.frozen? ⟨w.heap.size, j, none⟩ = false := by
  have hh := heap_alloc_new w.drew (.cells (bytesRow s (grownCap w s.size 0 5)) 5 ((bytesRow s (grownCap w s.size 0 5)).size, (bytesRow s (grownCap w s.size 0 5)).size + 1))
  refine ⟨_, _, run_bytes_of_string w 9 22 5 s Try.underlying9 Try.underlying22 Try.underlying5, grownCap_ge _ _ _ _, ((Below.refl _ w).drew).alloc (Nat.le_refl _) _, by simp, fun j b hb => ?_, fun j hj => ?_⟩
  · have hj : j < (strB s).length := (List.getElem?_eq_some_iff.1 hb).1
    have hjs : j < s.data.size := by unfold strB at hj; simpa using hj
    have hv : (bytesRow s (grownCap w s.size 0 5))[j]? = some (Value.int .u8 b.toNat) := by
      unfold bytesRow
      rw [Array.getElem?_append_left (by simpa using hjs), Array.getElem?_map]
      have : s.data[j]? = some b := by rw [← hb]; unfold strB; simp
      rw [this]; rfl
    show World.cell? _ ⟨w.drew.heap.size, j, none⟩ = _
    simp only [World.cell?, hh]
    simpa using hv
  · have hsz : s.size ≤ (bytesRow s (grownCap w s.size 0 5)).size := by
      unfold bytesRow
      rw [Array.size_append, Array.size_map]
      exact Nat.le_add_right _ _
    show World.frozen? _ ⟨w.drew.heap.size, j, none⟩ = _
    simp only [World.frozen?, hh]
    simp
    omega
theorem conv3_any {P : Program} (w : World) (src e dst : TypeId) (hs : P.underlying src = some (.slice e)) (he : P.underlying e = some (.int .u8)) (hd : P.underlying dst = some .string)
    (a : Option Addr) (n cap : Nat) (zs : List Int) (hn : zs.length = n) (hr : Reads w .u8 a cap zs) : (convert src dst (.slice a n cap)).run P w = .ok (.string (strOfNums zs)) w := by
  by_cases h0 : zs = []
  · subst h0; subst hn
    rw [run_convert_bytes_string w src dst e _ _ cap hs he hd]
    cases a with
    | none => simp [Conv.bytesToString]; rfl
    | some ad => simp [Conv.bytesToString, loadCells, loadCellsFrom]; rfl
  · obtain ⟨b, off, rfl, hat⟩ := hr.2.2.resolve_left h0
    exact run_convert_bytes_arg w src e hs he b off n cap zs hn (fun i hi => by rw [List.getD_eq_getElem?_getD]; exact hat.2 i (by rw [hn]; exact hi)) dst hd
def lowL (bs : List UInt8) : List Int := bs.map fun b => smallF b.toNat
def lowS (s : ByteArray) : ByteArray := strOfNums (lowL (strB s))
theorem smallF_byte (b : UInt8) : 0 ≤ smallF b.toNat ∧ smallF b.toNat ≤ 255 := by
  have h := b.toNat_lt
  unfold smallF; split <;> omega
theorem lowL_len (s : ByteArray) : (lowL (strB s)).length = s.size := by unfold lowL; rw [List.length_map, strB_len]
set_option maxRecDepth 100000 in
set_option maxHeartbeats 1000000 in
theorem lower_any (s : ByteArray) (w : World) (hsz : s.size ≤ 9223372036854775807) : Calls Try.prog 40 #[.string s] w (Told (.string (lowS s)) w) := by
  obtain ⟨cap, w2, hrun, hcap, hb2, hz2, hcells, hfz⟩ := conv_strW s w
  have hcs : ∀ (j : Nat), j < s.size → ∃ b : UInt8, (strB s)[j]? = some b := fun j hj => ⟨_, List.getElem?_eq_getElem (by rw [strB_len]; exact hj)⟩
  have hcap' : (s.size : Int) ≤ (cap : Int) := by omega
  have HC := Lib.hid hcells
  have HF := Lib.hid hfz
  have HS := Lib.hid hcs
  clear hcells hfz hcs
  go_enter Try.func40, Try.ntmps40
  go_wp2_with fail
  go_loopw [10] (fun i wr => ∃ k : Nat, k ≤ s.size ∧ i = .int .i64 k ∧ Below w.heap.size w wr ∧ Hid (∀ (j : Nat) (b : UInt8), (strB s)[j]? = some b → wr.cell? ⟨w.heap.size, j, none⟩ = some (.int .u8 (if j < k then smallF b.toNat else b.toNat))) ∧ Hid (∀ j, j < s.size → wr.frozen? ⟨w.heap.size, j, none⟩ = false)) (fun i _ => s.size - (intOf i).toNat)
  case atStart => exact ⟨0, by omega, rfl, hb2, Lib.hid (fun j b hb => by simpa using HC.out j b hb), HF⟩
  case round =>
    obtain ⟨k, hk, rfl, hbr, hc, hf⟩ := hrel
    by_cases hlt : k < s.size
    · obtain ⟨b, hb⟩ := HS.out k hlt
      have c0 : wr.cell? ⟨w.heap.size, k, none⟩ = some (.int .u8 b.toNat) := by have := hc.out k b hb; rwa [if_neg (Nat.lt_irrefl k)] at this
      have f0 := hf.out k hlt
      have hbl := b.toNat_lt
      have hlt' : (k : Int) < (s.size : Int) := by omega
      have hsm := fun w => small_any (b.toNat : Int) w ⟨by omega, by omega⟩
      have hw : wrap64 (b.toNat : Int) = b.toNat := by unfold wrap64; omega
      have hx := smallF_byte b
      have HN : Hid (∀ (j : Nat) (d : UInt8), (strB s)[j]? = some d → (wr.setCell ⟨w.heap.size, k, none⟩ (.int .u8 (smallF b.toNat))).cell? ⟨w.heap.size, j, none⟩ = some (.int .u8 (if j < k + 1 then smallF d.toNat else d.toNat))) := by
        refine Lib.hid (fun j d hd => ?_)
        by_cases hj : j = k
        · subst hj
          obtain rfl : d = b := by rw [hb] at hd; exact (Option.some.inj hd).symm
          rw [World.cell?_setCell_same' _ _ _ (by rw [c0]; rfl), if_pos (Nat.lt_succ_self _)]
        · rw [World.cell?_setCell_other _ _ _ _ (by intro h; injection h with _ h2 _; omega), hc.out j d hd]
          by_cases h2 : j < k
          · rw [if_pos h2, if_pos (by omega)]
          · rw [if_neg h2, if_neg (by omega)]
      have HG : Hid (∀ j, j < s.size → (wr.setCell ⟨w.heap.size, k, none⟩ (.int .u8 (smallF b.toNat))).frozen? ⟨w.heap.size, j, none⟩ = false) := Lib.hid (fun j hj => by rw [World.frozen?_setCell]; exact hf.out j hj)
      have hb3 : Below w.heap.size w (wr.setCell ⟨w.heap.size, k, none⟩ (.int .u8 (smallF b.toNat))) := hbr.setCell (p := ⟨w.heap.size, k, none⟩) (Nat.le_refl _) _
      clear hc hf HC HF HS
      generalize smallF b.toNat = x at *
      go_wp2_with (go_at_call 65; refine (hsm _).mono ?_; rintro e wq ⟨rfl, hwq⟩; replace hwq := hwq.symm; subst hwq)
      go_roundw
      case rel => exact ⟨k + 1, by omega, by go_num, hb3, HN, HG⟩
      case measure => simp [intOf]; omega
    · have hke : k = s.size := by omega
      subst hke
      have cv := run_convert_bytes_arg wr 22 5 Try.underlying22 Try.underlying5 w.heap.size 0 s.size cap (lowL (strB s)) (lowL_len s) (fun i hi => by
        obtain ⟨b, hb⟩ := HS.out i hi
        have h := hc.out i b hb
        rw [if_pos hi] at h
        rw [Nat.zero_add, h]
        unfold lowL
        rw [List.getD_eq_getElem?_getD, List.getElem?_map, hb]
        rfl) 9 Try.underlying9
      clear hc hf HC HF HS
      have hL : strOfNums (lowL (strB s)) = lowS s := rfl
      rw [hL] at cv
      go_wp2
      go_ret
      exact ⟨rfl, hbr⟩
theorem low_snoc (s : ByteArray) (k : Nat) (h : k < s.size) : (lowL (strB s)).take (k + 1) = (lowL (strB s)).take k ++ [smallF (((s[k]'h).toNat : Nat) : Int)] := by
  have hk : (lowL (strB s))[k]? = some (smallF (((s[k]'h).toNat : Nat) : Int)) := by
    unfold lowL strB
    rw [List.getElem?_map]
    have : s.data.toList[k]? = some (s[k]'h) := by
      rw [Array.getElem?_toList, Array.getElem?_eq_getElem (by exact h)]; rfl
    rw [this]; rfl
  rw [List.take_add_one, hk]; rfl
set_option maxRecDepth 100000 in
set_option maxHeartbeats 2000000 in
theorem rlower_any (s : ByteArray) (w : World) (hs : s.size ≤ 1000000) : Calls Try.prog 37 #[.string s] w (Told (.string (lowS s)) w) := by
  obtain ⟨i0, hi, hz0, hz1, hz2⟩ := info_parts Try.info5
  have own0 := World.ownsRow_made (base := w.heap.size) (e := 5) (size := 1) w #[] 0 (Nat.le_refl _) (by simp [maxLen]) (by simp)
  go_enter Try.func37, Try.ntmps37
  go_wp2
  go_loopw [3, 4] (fun v i wr => ∃ k : Nat, k ≤ s.size ∧ i = .int .i64 k ∧ wr.ownsRow w.heap.size 5 1 v k (((lowL (strB s)).take k).map (Value.int .u8)) ∧ Below w.heap.size w wr)
    (fun _ i _ => s.size - (intOf i).toNat)
  case atStart => exact ⟨0, by omega, rfl, own0, (Below.refl _ w).alloc (Nat.le_refl _) _⟩
  case round =>
    obtain ⟨k, hk, rfl, hown, hbl⟩ := hrel
    by_cases hlt : k < s.size
    · have hlt' : (k : Int) < (s.size : Int) := by omega
      have HT := Lib.hid (low_snoc s k hlt)
      have hll : ((lowL (strB s)).take k).length = k := by rw [List.length_take, lowL_len]; omega
      have hbl8 := (s[k]'hlt).toNat_lt
      have hsm := fun w => rsmall_any (((s[k]'hlt).toNat : Nat) : Int) w ⟨by omega, by omega⟩
      have hw : wrap64 (((s[k]'hlt).toNat : Nat) : Int) = (s[k]'hlt).toNat := by unfold wrap64; omega
      have hx := smallF_byte (s[k]'hlt)
      have hsz := hbl.size
      have HLL := Lib.hid hll; clear hll
      generalize (lowL (strB s)).take k = acc at *
      generalize smallF (((s[k]'hlt).toNat : Nat) : Int) = x at *
      go_wp2_with (first
        | (go_at_call 63; refine (hsm _).mono ?_; rintro e wq ⟨rfl, hwq⟩; replace hwq := hwq.symm; subst hwq)
        | (at_builtin; refine wpList_append_reads rfl _ _ 22 rfl w.heap.size 5 i0 .u8 1 Try.underlying22 hi hz0 hz1 hz2 _ k acc rfl (hown.alloc _) HLL.out (some ⟨wr.heap.size, 0, none⟩) 1 1 [x] rfl rfl (reads_new wr .u8 _ 5 1 rfl (by unfold maxLen; omega)) (fun h => by cases h) (by unfold maxLen; omega) (by omega) (by simp <;> omega) ?_; intro v' w2 hown2 hgrow2))
      have hbl2 : Below w.heap.size w w2 := (hbl.alloc hsz _).grown hgrow2 (by simp <;> omega) (fun j hj => (hown.lt j hj).1)
      go_roundw
      case rel => exact ⟨k + 1, by omega, by go_num, by rw [HT.out]; have := hown2; rw [List.length_append, HLL.out] at this; exact this, hbl2⟩
      case measure => simp [intOf]; omega
    · obtain rfl : k = s.size := by omega
      have he : (lowL (strB s)).take s.size = lowL (strB s) := by rw [List.take_of_length_le (by rw [lowL_len]; omega)]
      have HL := Lib.hid (lowL_len s)
      rw [he] at hown
      have hS : strOfNums (lowL (strB s)) = lowS s := rfl
      generalize lowL (strB s) = ys at *
      rw [← HL.out] at hown
      obtain ⟨a, cp, hv, hrd⟩ := Reads.of_owns hown
      rw [HL.out] at hv
      clear he hown
      subst hv
      have cv := conv3_any wr 22 5 9 Try.underlying22 Try.underlying5 Try.underlying9 a s.size cp ys HL.out hrd
      rw [hS] at cv
      go_wp2
      go_ret
      exact ⟨rfl, hbl⟩
def sameB (a b : ByteArray) : Bool := decide (lowL (strB a) = lowL (strB b))
theorem sameB_len {a b : ByteArray} (h : a.size ≠ b.size) : sameB a b = false := by
  unfold sameB
  refine decide_eq_false (fun e => h ?_)
  rw [← lowL_len a, ← lowL_len b, e]
theorem lowL_at (s : ByteArray) (k : Nat) (h : k < s.size) : (lowL (strB s))[k]? = some (smallF (((s[k]'h).toNat : Nat) : Int)) := by
  unfold lowL strB
  rw [List.getElem?_map]
  have : s.data.toList[k]? = some (s[k]'h) := by
    rw [Array.getElem?_toList, Array.getElem?_eq_getElem (by exact h)]; rfl
  rw [this]; rfl
theorem sameB_not {a b : ByteArray} {k : Nat} (ha : k < a.size) (hb : k < b.size) (h : smallF (((a[k]'ha).toNat : Nat) : Int) ≠ smallF (((b[k]'hb).toNat : Nat) : Int)) : sameB a b = false := by
  unfold sameB
  refine decide_eq_false (fun e => h ?_)
  have h1 := lowL_at a k ha
  rw [e, lowL_at b k hb] at h1
  exact (Option.some.inj h1).symm
set_option maxRecDepth 100000 in
set_option maxHeartbeats 2000000 in
theorem same_any (a b : ByteArray) (w : World) (hs : a.size ≤ 1000000) : Calls Try.prog 82 #[.string a, .string b] w (Told (.bool (sameB a b)) w) := by
  by_cases hl : a.size = b.size
  · have n0 : ((a.size : Int) == (b.size : Int)) = true := beq_iff_eq.2 (by omega)
    go_enter Try.func82, Try.ntmps82
    go_wp2
    go_loopw [13] (fun i wr => ∃ k : Nat, k ≤ a.size ∧ i = .int .i64 k ∧ Hid ((lowL (strB a)).take k = (lowL (strB b)).take k) ∧ Below w.heap.size w wr) (fun i _ => a.size - (intOf i).toNat)
    case atStart => exact ⟨0, by omega, rfl, Lib.hid rfl, Below.refl _ _⟩
    case round =>
      obtain ⟨k, hk, rfl, ht, hbl⟩ := hrel
      by_cases hlt : k < a.size
      · have hltb : k < b.size := by omega
        have hlt' : (k : Int) < (a.size : Int) := by omega
        have ha8 := (a[k]'hlt).toNat_lt
        have hb8 := (b[k]'hltb).toNat_lt
        have hA := fun w => small_any (((a[k]'hlt).toNat : Nat) : Int) w ⟨by omega, by omega⟩
        have hB := fun w => small_any (((b[k]'hltb).toNat : Nat) : Int) w ⟨by omega, by omega⟩
        have hwa : wrap64 (((a[k]'hlt).toNat : Nat) : Int) = (a[k]'hlt).toNat := by unfold wrap64; omega
        have hwb : wrap64 (((b[k]'hltb).toNat : Nat) : Int) = (b[k]'hltb).toNat := by unfold wrap64; omega
        have HT : Hid (smallF (((a[k]'hlt).toNat : Nat) : Int) = smallF (((b[k]'hltb).toNat : Nat) : Int) → (lowL (strB a)).take (k + 1) = (lowL (strB b)).take (k + 1)) := Lib.hid (fun e => by rw [low_snoc a k hlt, low_snoc b k hltb, ht.out, e])
        have HN : Hid (smallF (((a[k]'hlt).toNat : Nat) : Int) ≠ smallF (((b[k]'hltb).toNat : Nat) : Int) → sameB a b = false) := Lib.hid (fun h => sameB_not hlt hltb h)
        clear ht
        generalize smallF (((a[k]'hlt).toNat : Nat) : Int) = x at *
        generalize smallF (((b[k]'hltb).toNat : Nat) : Int) = y at *
        by_cases hxy : x = y
        · have hT := Lib.hid (HT.out hxy)
          clear HT HN
          subst hxy
          have n1 : (x == x) = true := beq_self_eq_true x
          go_wp2_with fail
          go_quiet ((go_at_call 65; first | with_reducible exact Calls.quiet_of_same (hA _) | with_reducible exact Calls.quiet_of_same (hB _)))
          go_wp2
          go_roundw
          case rel => exact ⟨k + 1, by omega, by go_num, hT, below_drewN hbl _⟩
          case measure => simp [intOf]; omega
        · have hN := HN.out hxy
          have n1 : (x == y) = false := beq_eq_false_iff_ne.2 hxy
          clear HT HN hxy
          go_wp2_with fail
          go_quiet ((go_at_call 65; first | with_reducible exact Calls.quiet_of_same (hA _) | with_reducible exact Calls.quiet_of_same (hB _)))
          go_wp2
          go_ret
          exact ⟨by rw [hN]; rfl, below_drewN hbl _⟩
      · obtain rfl : k = a.size := by omega
        have hS : sameB a b = true := by
          unfold sameB
          have e := ht.out
          rw [List.take_of_length_le (by rw [lowL_len]; omega), List.take_of_length_le (by rw [lowL_len]; omega)] at e
          exact decide_eq_true e
        clear ht
        go_wp2
        go_ret
        exact ⟨by rw [hS]; rfl, hbl⟩
  · have n0 : ((a.size : Int) == (b.size : Int)) = false := beq_eq_false_iff_ne.2 (by omega)
    have hN := sameB_len hl
    go_enter Try.func82, Try.ntmps82
    go_wp2
    go_ret
    exact ⟨by rw [hN]; rfl, Below.refl _ _⟩
end

section
open Go.RowKit Go.Shelf
set_option linter.unusedVariables false
theorem spacesF_stop {l : List Int} {j : Nat} (h : spB l j = false) : spacesF l j = j := spacesGo_stop _ h
theorem digitsGo_fuel (l : List Int) : ∀ (f g j : Nat), l.length < j + f → l.length < j + g → digitsGo f l j = digitsGo g l j
  | f, g, j, hf, hg => by
    by_cases h : dgB l j = true
    · have := lt_of_dgB h
      obtain ⟨f, rfl⟩ : ∃ f', f = f' + 1 := ⟨f - 1, by omega⟩
      obtain ⟨g, rfl⟩ : ∃ g', g = g' + 1 := ⟨g - 1, by omega⟩
      rw [digitsGo, digitsGo, if_pos h, if_pos h]
      exact digitsGo_fuel l f g (j + 1) (by omega) (by omega)
    · rw [digitsGo_stop f (by simpa using h), digitsGo_stop g (by simpa using h)]
theorem digitsF_step {l : List Int} {j : Nat} (h : dgB l j = true) : digitsF l j = digitsF l (j + 1) := by
  unfold digitsF
  rw [digitsGo, if_pos h]
  have := lt_of_dgB h
  exact digitsGo_fuel l _ _ _ (by omega) (by omega)
theorem digitsF_stop {l : List Int} {j : Nat} (h : dgB l j = false) : digitsF l j = j := digitsGo_stop _ h
section
variable {a : Option Addr} {n cap : Nat} {l : List Int} {w : World} (i : Int) (k : Nat)
end
end

section
def kdA (ts : List Tk) (j : Nat) : Int := (ts[j]?.map (·.kind)).getD 0
theorem kdA_ge {ts : List Tk} {j : Nat} (h : ts.length ≤ j) : kdA ts j = 0 := by unfold kdA; rw [List.getElem?_eq_none h]; rfl
theorem kdA_at {ts : List Tk} {j : Nat} (h : j < ts.length) : kdA ts j = (ts[j]'h).kind := by unfold kdA; rw [List.getElem?_eq_getElem h]; rfl
def endGo (ts : List Tk) (e : Nat) : Nat → Nat → Nat
  | 0, j => j
  | f + 1, j => if j < e ∧ kdA ts j ≠ 0 then endGo ts e f (j + 1) else j
def endF (ts : List Tk) (e j : Nat) : Nat := endGo ts e (e - j) j
theorem endGo_step (ts : List Tk) (e : Nat) (f j : Nat) (h : e - j ≤ f) : endGo ts e f j = if j < e ∧ kdA ts j ≠ 0 then endGo ts e (f - 1) (j + 1) else j := by
  cases f with
  | zero => rw [if_neg (by omega)]; rfl
  | succ f => rfl
theorem endF_step (ts : List Tk) (e j : Nat) : endF ts e j = if j < e ∧ kdA ts j ≠ 0 then endF ts e (j + 1) else j := by
  unfold endF
  rw [endGo_step ts e (e - j) j (Nat.le_refl _)]
  split
  · rw [show e - j - 1 = e - (j + 1) by omega]
  · rfl
theorem endF_spec (ts : List Tk) (e : Nat) : ∀ (n j : Nat), e - j ≤ n → j ≤ endF ts e j ∧ endF ts e j ≤ max j e ∧ (∀ i, j ≤ i → i < endF ts e j → i < e ∧ kdA ts i ≠ 0) ∧ (endF ts e j < e → kdA ts (endF ts e j) = 0) := by
  intro n
  induction n with
  | zero =>
    intro j h
    rw [endF_step, if_neg (by omega)]
    exact ⟨Nat.le_refl _, by omega, fun i h1 h2 => by omega, fun h1 => by omega⟩
  | succ n ih =>
    intro j h
    rw [endF_step]
    split
    · rename_i hh
      obtain ⟨h1, h2, h3, h4⟩ := ih (j + 1) (by omega)
      refine ⟨by omega, by omega, fun i hi1 hi2 => ?_, h4⟩
      rcases Nat.lt_or_ge j i with h5 | h5
      · exact h3 i h5 hi2
      · have : i = j := by omega
        subst this; exact hh
    · rename_i hh
      refine ⟨Nat.le_refl _, by omega, fun i h1 h2 => by omega, fun h1 => ?_⟩
      exact Classical.byContradiction fun h2 => hh ⟨h1, h2⟩
theorem endF_ge (ts : List Tk) (e j : Nat) : j ≤ endF ts e j := (endF_spec ts e _ j (Nat.le_refl _)).1
theorem endF_le (ts : List Tk) (e j : Nat) : endF ts e j ≤ max j e := (endF_spec ts e _ j (Nat.le_refl _)).2.1
theorem endF_in (ts : List Tk) (e j i : Nat) (h : j ≤ i) (hi : i < endF ts e j) : i < e ∧ kdA ts i ≠ 0 := (endF_spec ts e _ j (Nat.le_refl _)).2.2.1 i h hi
theorem endF_at (ts : List Tk) (e j : Nat) (h : endF ts e j < e) : kdA ts (endF ts e j) = 0 := (endF_spec ts e _ j (Nat.le_refl _)).2.2.2 h
theorem more_iff (ts : List Tk) (e j i : Nat) (h : j ≤ i) (hi : i ≤ endF ts e j) : (i < e ∧ kdA ts i ≠ 0) ↔ i < endF ts e j := by
  constructor
  · intro hh
    rcases Nat.lt_or_ge i (endF ts e j) with h1 | h1
    · exact h1
    · have h2 : i = endF ts e j := by omega
      subst h2
      exact absurd (endF_at ts e j hh.1) hh.2
  · intro hh; exact endF_in ts e j i h hh
theorem endF_sub (ts : List Tk) (e j i n : Nat) (h : j ≤ i) (hi : i ≤ n) (hn : n ≤ endF ts e j) : endF ts n i = n := by
  obtain ⟨h1, h2, h3, h4⟩ := endF_spec ts n _ i (Nat.le_refl _)
  rcases Nat.lt_or_ge (endF ts n i) n with h5 | h5
  · exact absurd (h4 h5) (endF_in ts e j _ (by omega) (by omega)).2
  · omega
def closeOf (k : Int) : Int := if k = 21 ∨ k = 2 then 22 else if k = 19 then 20 else if k = 23 then 24 else 0
def scanG (g : Nat → Nat) (ts : List Tk) (p : Int → Bool) (E : Nat) : Nat → Nat → Nat
  | 0, j => j
  | f + 1, j => if j < E ∧ p (kdA ts j) = false then scanG g ts p E f (g j) else j
def cvG (ts : List Tk) (E : Nat) : Nat → Nat → Nat
  | 0, j => j + 1
  | d + 1, j => if closeOf (kdA ts j) = 0 then j + 1 else min E (scanG (cvG ts E d) ts (fun k => decide (k = closeOf (kdA ts j))) E (E - (j + 1)) (j + 1) + 1)
def cvF (ts : List Tk) (E j : Nat) : Nat := cvG ts E (E - j) j
def scanF (ts : List Tk) (p : Int → Bool) (E j : Nat) : Nat := scanG (cvF ts E) ts p E (E - j) j
theorem scanG_congr (ts : List Tk) (p : Int → Bool) (E : Nat) (g g' : Nat → Nat) : ∀ (f j : Nat), (∀ i, j ≤ i → i < E → g i = g' i ∧ i < g i) → scanG g ts p E f j = scanG g' ts p E f j := by
  intro f
  induction f with
  | zero => intro j _; rfl
  | succ f ih =>
    intro j h
    show (if _ then _ else _) = (if _ then _ else _)
    split
    · rename_i hh
      obtain ⟨h1, h2⟩ := h j (Nat.le_refl _) hh.1
      rw [← h1]
      exact ih (g j) fun i hi hE => h i (by omega) hE
    · rfl
theorem scanG_end (ts : List Tk) (p : Int → Bool) (E : Nat) (g : Nat → Nat) (f j : Nat) (h : E ≤ j) : scanG g ts p E f j = j := by
  cases f with
  | zero => rfl
  | succ f => show (if _ then _ else _) = j; rw [if_neg (by omega)]
theorem scanG_step (ts : List Tk) (p : Int → Bool) (E : Nat) (g : Nat → Nat) (f j : Nat) : scanG g ts p E (f + 1) j = if j < E ∧ p (kdA ts j) = false then scanG g ts p E f (g j) else j := rfl
theorem scanG_fuel (ts : List Tk) (p : Int → Bool) (E : Nat) (g : Nat → Nat) : ∀ (n j f f' : Nat), E - j ≤ n → E - j ≤ f → E - j ≤ f' → (∀ i, j ≤ i → i < E → i < g i) → scanG g ts p E f j = scanG g ts p E f' j := by
  intro n
  induction n with
  | zero => intro j f f' h _ _ _; rw [scanG_end _ _ _ _ _ _ (by omega), scanG_end _ _ _ _ _ _ (by omega)]
  | succ n ih =>
    intro j f f' h h1 h2 hg
    rcases Nat.lt_or_ge j E with hj | hj
    · obtain ⟨f, rfl⟩ : ∃ m, f = m + 1 := ⟨f - 1, by omega⟩
      obtain ⟨f', rfl⟩ : ∃ m, f' = m + 1 := ⟨f' - 1, by omega⟩
      have h3 := hg j (Nat.le_refl _) hj
      rw [scanG_step, scanG_step]
      split
      · exact ih (g j) f f' (by omega) (by omega) (by omega) fun i hi hE => hg i (by omega) hE
      · rfl
    · rw [scanG_end _ _ _ _ _ _ hj, scanG_end _ _ _ _ _ _ hj]
theorem scanG_bounds (ts : List Tk) (p : Int → Bool) (E : Nat) (g : Nat → Nat) : ∀ (f j : Nat), j ≤ E → (∀ i, j ≤ i → i < E → i < g i ∧ g i ≤ E) → j ≤ scanG g ts p E f j ∧ scanG g ts p E f j ≤ E := by
  intro f
  induction f with
  | zero => intro j h _; exact ⟨Nat.le_refl _, h⟩
  | succ f ih =>
    intro j h hg
    rw [scanG_step]
    split
    · rename_i hh
      obtain ⟨h1, h2⟩ := hg j (Nat.le_refl _) hh.1
      obtain ⟨h3, h4⟩ := ih (g j) h2 fun i hi hE => hg i (by omega) hE
      exact ⟨by omega, h4⟩
    · exact ⟨Nat.le_refl _, h⟩
theorem cvG_step (ts : List Tk) (E d j : Nat) : cvG ts E (d + 1) j = if closeOf (kdA ts j) = 0 then j + 1 else min E (scanG (cvG ts E d) ts (fun k => decide (k = closeOf (kdA ts j))) E (E - (j + 1)) (j + 1) + 1) := rfl
theorem cvG_bounds (ts : List Tk) (E : Nat) : ∀ (d j : Nat), j < E → j < cvG ts E d j ∧ cvG ts E d j ≤ E := by
  intro d
  induction d with
  | zero => intro j h; exact ⟨Nat.lt_succ_self _, h⟩
  | succ d ih =>
    intro j h
    rw [cvG_step]
    split
    · exact ⟨Nat.lt_succ_self _, h⟩
    · obtain ⟨h1, h2⟩ := scanG_bounds ts (fun k => decide (k = closeOf (kdA ts j))) E (cvG ts E d) (E - (j + 1)) (j + 1) h fun i _ hE => ih i hE
      omega
theorem cvG_fuel (ts : List Tk) (E : Nat) : ∀ (n j d d' : Nat), E - j ≤ n → E - j ≤ d → E - j ≤ d' → j < E → cvG ts E d j = cvG ts E d' j := by
  intro n
  induction n with
  | zero => intro j d d' h _ _ hj; omega
  | succ n ih =>
    intro j d d' h h1 h2 hj
    obtain ⟨d, rfl⟩ : ∃ m, d = m + 1 := ⟨d - 1, by omega⟩
    obtain ⟨d', rfl⟩ : ∃ m, d' = m + 1 := ⟨d' - 1, by omega⟩
    rw [cvG_step, cvG_step]
    split
    · rfl
    · rw [scanG_congr ts _ E (cvG ts E d) (cvG ts E d') _ _ fun i hi hE => ⟨ih i d d' (by omega) (by omega) (by omega) hE, (cvG_bounds ts E d i hE).1⟩]
theorem cvF_bounds (ts : List Tk) (E j : Nat) (h : j < E) : j < cvF ts E j ∧ cvF ts E j ≤ E := cvG_bounds ts E _ j h
theorem scanF_bounds (ts : List Tk) (p : Int → Bool) (E j : Nat) (h : j ≤ E) : j ≤ scanF ts p E j ∧ scanF ts p E j ≤ E := scanG_bounds ts p E _ _ j h fun i _ hE => cvF_bounds ts E i hE
theorem scanF_end (ts : List Tk) (p : Int → Bool) (E j : Nat) (h : E ≤ j) : scanF ts p E j = j := scanG_end ts p E _ _ j h
theorem scanF_step (ts : List Tk) (p : Int → Bool) (E j : Nat) : scanF ts p E j = if j < E ∧ p (kdA ts j) = false then scanF ts p E (cvF ts E j) else j := by
  rcases Nat.lt_or_ge j E with hj | hj
  · have h1 := cvF_bounds ts E j hj
    have h2 : scanF ts p E j = scanG (cvF ts E) ts p E (E - j - 1 + 1) j := by unfold scanF; rw [show E - j - 1 + 1 = E - j by omega]
    rw [h2, scanG_step]
    split
    · exact scanG_fuel ts p E _ _ _ _ _ (Nat.le_refl _) (by omega) (Nat.le_refl _) fun i _ hE => (cvF_bounds ts E i hE).1
    · rfl
  · rw [scanF_end _ _ _ _ hj, if_neg (by omega)]
theorem scanF_stop (ts : List Tk) (p : Int → Bool) (E : Nat) : ∀ (n j : Nat), E - j ≤ n → scanF ts p E j < E → p (kdA ts (scanF ts p E j)) = true := by
  intro n
  induction n with
  | zero => intro j h hE; rw [scanF_end _ _ _ _ (by omega)] at hE; omega
  | succ n ih =>
    intro j h
    rw [scanF_step]
    split
    · rename_i hh
      have h1 := cvF_bounds ts E j hh.1
      exact ih _ (by omega)
    · rename_i hh
      intro hE
      cases hp : p (kdA ts j) with
      | true => rfl
      | false => exact absurd ⟨hE, hp⟩ hh
theorem scanF_congr (ts : List Tk) (p q : Int → Bool) (E : Nat) (h : ∀ k, p k = q k) (j : Nat) : scanF ts p E j = scanF ts q E j := by rw [show p = q from funext h]
theorem cvF_step (ts : List Tk) (E j : Nat) (h : j < E) : cvF ts E j = if closeOf (kdA ts j) = 0 then j + 1 else min E (scanF ts (fun k => decide (k = closeOf (kdA ts j))) E (j + 1) + 1) := by
  have h2 : cvF ts E j = cvG ts E (E - j - 1 + 1) j := by unfold cvF; rw [show E - j - 1 + 1 = E - j by omega]
  rw [h2, cvG_step]
  split
  · rfl
  · unfold scanF
    rw [scanG_congr ts _ E (cvG ts E (E - j - 1)) (cvF ts E) _ _ fun i hi hE => ⟨cvG_fuel ts E _ i _ _ (Nat.le_refl _) (by omega) (Nat.le_refl _) hE, (cvG_bounds ts E _ i hE).1⟩]
def openAt (k : Int) : List Int → List Int
  | [] => if closeOf k = 0 then [] else [closeOf k]
  | c :: r => if k = c then r else if closeOf k = 0 then c :: r else closeOf k :: c :: r
def stackG (ts : List Tk) (E : Nat) : Nat → Nat → List Int → Nat
  | 0, j, _ => j
  | f + 1, j, cs => if j < E then (if openAt (kdA ts j) cs = [] then j + 1 else stackG ts E f (j + 1) (openAt (kdA ts j) cs)) else j
def stackF (ts : List Tk) (E j : Nat) (cs : List Int) : Nat := stackG ts E (E - j) j cs
theorem stackF_step (ts : List Tk) (E j : Nat) (cs : List Int) : stackF ts E j cs = if j < E then (if openAt (kdA ts j) cs = [] then j + 1 else stackF ts E (j + 1) (openAt (kdA ts j) cs)) else j := by
  rcases Nat.lt_or_ge j E with hj | hj
  · have h2 : stackF ts E j cs = stackG ts E (E - (j + 1) + 1) j cs := by unfold stackF; rw [show E - (j + 1) + 1 = E - j by omega]
    rw [h2]; rfl
  · unfold stackF; rw [show E - j = 0 by omega, if_neg (by omega)]; rfl
theorem stackF_end (ts : List Tk) (E j : Nat) (cs : List Int) (h : E ≤ j) : stackF ts E j cs = j := by rw [stackF_step, if_neg (by omega)]
theorem stackF_scan (ts : List Tk) (E : Nat) : ∀ (n j : Nat) (c : Int) (r : List Int), E - j ≤ n → j ≤ E →
    stackF ts E j (c :: r) = if scanF ts (fun k => decide (k = c)) E j < E then (if r = [] then scanF ts (fun k => decide (k = c)) E j + 1 else stackF ts E (scanF ts (fun k => decide (k = c)) E j + 1) r) else E := by
  intro n
  induction n with
  | zero =>
    intro j c r h hj
    rw [stackF_end _ _ _ _ (by omega), scanF_end _ _ _ _ (by omega), if_neg (by omega)]; omega
  | succ n ih =>
    intro j c r h hj
    rcases Nat.lt_or_ge j E with hE | hE
    · rw [stackF_step, if_pos hE, scanF_step]
      by_cases hk : kdA ts j = c
      · have hs : (if j < E ∧ decide (kdA ts j = c) = false then scanF ts (fun k => decide (k = c)) E (cvF ts E j) else j) = j := if_neg (by simp [hk])
        rw [hs, if_pos hE, show openAt (kdA ts j) (c :: r) = r from if_pos hk]
      · have hs : (if j < E ∧ decide (kdA ts j = c) = false then scanF ts (fun k => decide (k = c)) E (cvF ts E j) else j) = scanF ts (fun k => decide (k = c)) E (cvF ts E j) := if_pos ⟨hE, by simp [hk]⟩
        rw [hs]
        by_cases h0 : closeOf (kdA ts j) = 0
        · have h1 : openAt (kdA ts j) (c :: r) = c :: r := by show (if _ then _ else _) = _; rw [if_neg hk, if_pos h0]
          rw [h1, if_neg (by simp), cvF_step ts E j hE, if_pos h0]
          exact ih (j + 1) c r (by omega) (by omega)
        · have h1 : openAt (kdA ts j) (c :: r) = closeOf (kdA ts j) :: c :: r := by show (if _ then _ else _) = _; rw [if_neg hk, if_neg h0]
          rw [h1, if_neg (by simp), ih (j + 1) _ (c :: r) (by omega) (by omega), cvF_step ts E j hE, if_neg h0]
          have h2 := scanF_bounds ts (fun k => decide (k = closeOf (kdA ts j))) E (j + 1) (by omega)
          split
          · rename_i h3
            rw [if_neg (by simp), ih _ c r (by omega) (by omega), Nat.min_eq_right (by omega)]
          · rename_i h3
            rw [Nat.min_eq_left (by omega), scanF_end _ _ _ _ (Nat.le_refl _), if_neg (by omega)]
    · rw [stackF_end _ _ _ _ hE, scanF_end _ _ _ _ hE, if_neg (by omega)]; omega
theorem stackF_next (ts : List Tk) (E j : Nat) (h : j < E) : stackF ts E j [] = cvF ts E j := by
  rw [stackF_step, if_pos h, cvF_step ts E j h]
  by_cases h0 : closeOf (kdA ts j) = 0
  · rw [show openAt (kdA ts j) [] = [] from if_pos h0, if_pos rfl, if_pos h0]
  · rw [show openAt (kdA ts j) [] = [closeOf (kdA ts j)] from if_neg h0, if_neg (by simp), if_neg h0, stackF_scan ts E _ _ _ _ (Nat.le_refl _) (by omega)]
    have h2 := scanF_bounds ts (fun k => decide (k = closeOf (kdA ts j))) E (j + 1) (by omega)
    split
    · rw [if_pos rfl, Nat.min_eq_right (by omega)]
    · rw [Nat.min_eq_left (by omega)]
end

section
def txA (ts : List Tk) (j : Nat) : ByteArray := (ts[j]?.map (fun t => strOfNums t.text)).getD ⟨#[]⟩
theorem txA_at {ts : List Tk} {j : Nat} (h : j < ts.length) : txA ts j = strOfNums (ts[j]'h).text := by unfold txA; rw [List.getElem?_eq_getElem h]; rfl
structure Rl where
  at_ : Bool
  name : ByteArray
  frm : Nat
  to : Nat
  has : Bool
  opn : Nat
  fin : Nat
def rlCells (r : Rl) : List Go.Value := [.bool r.at_, .string r.name, .int .i64 r.frm, .int .i64 r.to, .bool r.has, .int .i64 r.opn, .int .i64 r.fin]
def isK (a : Int) : Int → Bool := fun k => decide (k = a)
def isK2 (a b : Int) : Int → Bool := fun k => decide (k = a) || decide (k = b)
theorem isK_iff {a k : Int} : isK a k = true ↔ k = a := decide_eq_true_iff
theorem isK2_iff {a b k : Int} : isK2 a b k = true ↔ k = a ∨ k = b := by unfold isK2; rw [Bool.or_eq_true, decide_eq_true_iff, decide_eq_true_iff]
def blkF (ts : List Tk) (E k : Nat) : Nat × Nat := (scanF ts (isK 24) E (k + 1), min E (scanF ts (isK 24) E (k + 1) + 1))
def atruleF (ts : List Tk) (E j : Nat) : Rl × Nat :=
  if scanF ts (isK2 17 23) E (j + 1) < E then
    if kdA ts (scanF ts (isK2 17 23) E (j + 1)) = 23 then
      (⟨true, lowS (txA ts j), j + 1, scanF ts (isK2 17 23) E (j + 1), true, scanF ts (isK2 17 23) E (j + 1) + 1, (blkF ts E (scanF ts (isK2 17 23) E (j + 1))).1⟩, (blkF ts E (scanF ts (isK2 17 23) E (j + 1))).2)
    else (⟨true, lowS (txA ts j), j + 1, scanF ts (isK2 17 23) E (j + 1), false, 0, 0⟩, scanF ts (isK2 17 23) E (j + 1) + 1)
  else (⟨true, lowS (txA ts j), j + 1, scanF ts (isK2 17 23) E (j + 1), false, 0, 0⟩, scanF ts (isK2 17 23) E (j + 1))
def qualF (ts : List Tk) (E j : Nat) : Rl × Nat :=
  (⟨false, ⟨#[]⟩, j, scanF ts (isK 23) E j, true, scanF ts (isK 23) E j + 1, (blkF ts E (scanF ts (isK 23) E j)).1⟩, (blkF ts E (scanF ts (isK 23) E j)).2)
def gapB (top : Bool) (k : Int) : Bool := decide (k = 13) || (top && (decide (k = 14) || decide (k = 15)))
def rulesGo (ts : List Tk) (E : Nat) (top : Bool) : Nat → Nat → List Rl
  | 0, _ => []
  | f + 1, j => if j < E then
      if gapB top (kdA ts j) = true then rulesGo ts E top f (j + 1)
      else if kdA ts j = 3 then (atruleF ts E j).1 :: rulesGo ts E top f (atruleF ts E j).2
      else if scanF ts (isK 23) E j < E then (qualF ts E j).1 :: rulesGo ts E top f (qualF ts E j).2
      else []
    else []
def rulesF (ts : List Tk) (E : Nat) (top : Bool) (j : Nat) : List Rl := rulesGo ts E top (E - j) j
theorem blkF_bounds (ts : List Tk) (E k : Nat) (h : k < E) : k + 1 ≤ (blkF ts E k).1 ∧ (blkF ts E k).1 ≤ E ∧ k < (blkF ts E k).2 ∧ (blkF ts E k).2 ≤ E ∧ (blkF ts E k).1 ≤ (blkF ts E k).2 := by
  have := scanF_bounds ts (isK 24) E (k + 1) h
  unfold blkF
  dsimp only
  omega
theorem atruleF_bounds (ts : List Tk) (E j : Nat) (h : j < E) : j < (atruleF ts E j).2 ∧ (atruleF ts E j).2 ≤ E := by
  have h1 := scanF_bounds ts (isK2 17 23) E (j + 1) h
  unfold atruleF
  split
  · rename_i h2
    have h3 := blkF_bounds ts E _ h2
    split
    · dsimp only; omega
    · dsimp only; omega
  · dsimp only; omega
theorem qualF_bounds (ts : List Tk) (E j : Nat) (h : scanF ts (isK 23) E j < E) (hj : j ≤ E) : j < (qualF ts E j).2 ∧ (qualF ts E j).2 ≤ E := by
  have h1 := scanF_bounds ts (isK 23) E j hj
  have h3 := blkF_bounds ts E _ h
  unfold qualF
  dsimp only; omega
theorem rulesGo_end (ts : List Tk) (E : Nat) (top : Bool) (f j : Nat) (h : E ≤ j) : rulesGo ts E top f j = [] := by
  cases f with
  | zero => rfl
  | succ f => show (if _ then _ else _) = _; rw [if_neg (by omega)]
theorem rulesGo_fuel (ts : List Tk) (E : Nat) (top : Bool) : ∀ (n j f f' : Nat), E - j ≤ n → E - j ≤ f → E - j ≤ f' → rulesGo ts E top f j = rulesGo ts E top f' j := by
  intro n
  induction n with
  | zero => intro j f f' h _ _; rw [rulesGo_end _ _ _ _ _ (by omega), rulesGo_end _ _ _ _ _ (by omega)]
  | succ n ih =>
    intro j f f' h h1 h2
    rcases Nat.lt_or_ge j E with hj | hj
    · obtain ⟨f, rfl⟩ : ∃ m, f = m + 1 := ⟨f - 1, by omega⟩
      obtain ⟨f', rfl⟩ : ∃ m, f' = m + 1 := ⟨f' - 1, by omega⟩
      have ha := atruleF_bounds ts E j hj
      show (if _ then _ else _) = (if _ then _ else _)
      rw [if_pos hj, if_pos hj]
      split
      · exact ih _ f f' (by omega) (by omega) (by omega)
      · split
        · rw [ih _ f f' (by omega) (by omega) (by omega)]
        · split
          · rename_i hq
            have hb := qualF_bounds ts E j hq (by omega)
            rw [ih _ f f' (by omega) (by omega) (by omega)]
          · rfl
    · rw [rulesGo_end _ _ _ _ _ hj, rulesGo_end _ _ _ _ _ hj]
theorem rulesF_step (ts : List Tk) (E : Nat) (top : Bool) (j : Nat) : rulesF ts E top j =
    if j < E then
      if gapB top (kdA ts j) = true then rulesF ts E top (j + 1)
      else if kdA ts j = 3 then (atruleF ts E j).1 :: rulesF ts E top (atruleF ts E j).2
      else if scanF ts (isK 23) E j < E then (qualF ts E j).1 :: rulesF ts E top (qualF ts E j).2
      else []
    else [] := by
  unfold rulesF
  rcases Nat.lt_or_ge j E with hj | hj
  · have ha := atruleF_bounds ts E j hj
    rw [rulesGo_fuel ts E top _ j _ (E - j - 1 + 1) (Nat.le_refl _) (Nat.le_refl _) (by omega)]
    show (if _ then _ else _) = _
    rw [if_pos hj, if_pos hj]
    split
    · exact rulesGo_fuel ts E top _ _ _ _ (Nat.le_refl _) (by omega) (Nat.le_refl _)
    · split
      · rw [rulesGo_fuel ts E top _ _ _ _ (Nat.le_refl _) (by omega) (Nat.le_refl _)]
      · split
        · rename_i hq
          have hb := qualF_bounds ts E j hq (by omega)
          rw [rulesGo_fuel ts E top _ _ _ _ (Nat.le_refl _) (by omega) (Nat.le_refl _)]
        · rfl
  · rw [rulesGo_end _ _ _ _ _ hj, if_neg (by omega)]
def overGo (ts : List Tk) (p : Int → Bool) (E : Nat) : Nat → Nat → Nat
  | 0, j => j
  | f + 1, j => if j < E ∧ p (kdA ts j) = true then overGo ts p E f (j + 1) else j
def overF (ts : List Tk) (p : Int → Bool) (E j : Nat) : Nat := overGo ts p E (E - j) j
theorem overF_step (ts : List Tk) (p : Int → Bool) (E j : Nat) : overF ts p E j = if j < E ∧ p (kdA ts j) = true then overF ts p E (j + 1) else j := by
  rcases Nat.lt_or_ge j E with hj | hj
  · have h2 : overF ts p E j = overGo ts p E (E - (j + 1) + 1) j := by unfold overF; rw [show E - (j + 1) + 1 = E - j by omega]
    rw [h2]; rfl
  · unfold overF; rw [show E - j = 0 by omega, if_neg (by omega)]; rfl
theorem overF_bounds (ts : List Tk) (p : Int → Bool) (E : Nat) : ∀ (n j : Nat), E - j ≤ n → j ≤ overF ts p E j ∧ overF ts p E j ≤ max j E ∧ (overF ts p E j < E → p (kdA ts (overF ts p E j)) = false) := by
  intro n
  induction n with
  | zero => intro j h; rw [overF_step, if_neg (by omega)]; exact ⟨Nat.le_refl _, by omega, fun h1 => by omega⟩
  | succ n ih =>
    intro j h
    rw [overF_step]
    split
    · obtain ⟨h1, h2, h3⟩ := ih (j + 1) (by omega)
      exact ⟨by omega, by omega, h3⟩
    · rename_i hh
      refine ⟨Nat.le_refl _, by omega, fun h1 => ?_⟩
      cases hp : p (kdA ts j) with
      | false => rfl
      | true => exact absurd ⟨h1, hp⟩ hh
def backF (ts : List Tk) (a : Nat) : Nat → Nat
  | 0 => 0
  | b + 1 => if a < b + 1 ∧ kdA ts b = 13 then backF ts a b else b + 1
theorem backF_bounds (ts : List Tk) (a : Nat) : ∀ (b : Nat), a ≤ b → a ≤ backF ts a b ∧ backF ts a b ≤ b
  | 0, h => ⟨h, Nat.le_refl _⟩
  | b + 1, h => by
    show a ≤ (if _ then _ else _) ∧ (if _ then _ else _) ≤ b + 1
    split
    · rename_i hh
      obtain ⟨h1, h2⟩ := backF_bounds ts a b (by omega)
      exact ⟨h1, by omega⟩
    · exact ⟨h, Nat.le_refl _⟩
def trimF (ts : List Tk) (E j : Nat) : Nat × Nat :=
  if overF ts (isK 13) E j < E then (overF ts (isK 13) E j, backF ts (overF ts (isK 13) E j) E) else (j, j)
theorem trimF_bounds (ts : List Tk) (E j : Nat) (h : j ≤ E) : j ≤ (trimF ts E j).1 ∧ (trimF ts E j).1 ≤ (trimF ts E j).2 ∧ (trimF ts E j).2 ≤ E := by
  obtain ⟨h1, h2, _⟩ := overF_bounds ts (isK 13) E _ j (Nat.le_refl _)
  unfold trimF
  split
  · rename_i hh
    obtain ⟨h3, h4⟩ := backF_bounds ts (overF ts (isK 13) E j) E (by omega)
    exact ⟨h1, h3, h4⟩
  · exact ⟨Nat.le_refl _, Nat.le_refl _, h⟩
structure Dl where
  name : ByteArray
  frm : Nat
  to : Nat
  imp : Bool
def dlCells (d : Dl) : List Go.Value := [.string d.name, .int .i64 d.frm, .int .i64 d.to, .bool d.imp]
def dashB (s : ByteArray) : Bool := decide (2 ≤ s.size) && ((s.extract 0 2).toList == [45, 45])
def propF (s : ByteArray) : ByteArray := if dashB s = true then s else lowS s
def markF (ts : List Tk) (a b : Nat) : Nat := (trimF ts (b - 1) a).2
def impB (ts : List Tk) (a b : Nat) : Bool :=
  decide (a < b) && (decide (kdA ts (b - 1) = 1) && (((lowS (txA ts (b - 1))).toList == [105, 109, 112, 111, 114, 116, 97, 110, 116]) && (decide (a < markF ts a b) && (decide (kdA ts (markF ts a b - 1) = 9) && ((txA ts (markF ts a b - 1)).toList == [33])))))
def declAt (ts : List Tk) (a b : Nat) (name : ByteArray) : Dl :=
  if impB ts a b = true then ⟨name, (trimF ts (markF ts a b - 1) a).1, (trimF ts (markF ts a b - 1) a).2, true⟩ else ⟨name, a, b, false⟩
def colonF (ts : List Tk) (E j : Nat) : Nat := overF ts (isK 13) E (j + 1)
def declB (ts : List Tk) (E j : Nat) : Bool := decide (kdA ts j = 1) && (decide (colonF ts E j < E) && decide (kdA ts (colonF ts E j) = 16))
def declF (ts : List Tk) (E j : Nat) : Dl := declAt ts (trimF ts E (colonF ts E j + 1)).1 (trimF ts E (colonF ts E j + 1)).2 (propF (txA ts j))
def declsGo (ts : List Tk) (E : Nat) : Nat → Nat → List Dl
  | 0, _ => []
  | f + 1, j => if j < E then
      if isK2 13 17 (kdA ts j) = true then declsGo ts E f (j + 1)
      else if kdA ts j = 3 then declsGo ts E f (atruleF ts E j).2
      else if declB ts (scanF ts (isK 17) E j) j = true then declF ts (scanF ts (isK 17) E j) j :: declsGo ts E f (scanF ts (isK 17) E j)
      else declsGo ts E f (scanF ts (isK 17) E j)
    else []
def declsF (ts : List Tk) (E j : Nat) : List Dl := declsGo ts E (E - j) j
theorem scanF_on (ts : List Tk) (p : Int → Bool) (E j : Nat) (h : j < E) (hp : p (kdA ts j) = false) : j < scanF ts p E j ∧ scanF ts p E j ≤ E := by
  rw [scanF_step, if_pos ⟨h, hp⟩]
  have h1 := cvF_bounds ts E j h
  have h2 := scanF_bounds ts p E (cvF ts E j) h1.2
  omega
theorem declsGo_end (ts : List Tk) (E : Nat) (f j : Nat) (h : E ≤ j) : declsGo ts E f j = [] := by
  cases f with
  | zero => rfl
  | succ f => show (if _ then _ else _) = _; rw [if_neg (by omega)]
theorem declsGo_fuel (ts : List Tk) (E : Nat) : ∀ (n j f f' : Nat), E - j ≤ n → E - j ≤ f → E - j ≤ f' → declsGo ts E f j = declsGo ts E f' j := by
  intro n
  induction n with
  | zero => intro j f f' h _ _; rw [declsGo_end _ _ _ _ (by omega), declsGo_end _ _ _ _ (by omega)]
  | succ n ih =>
    intro j f f' h h1 h2
    rcases Nat.lt_or_ge j E with hj | hj
    · obtain ⟨f, rfl⟩ : ∃ m, f = m + 1 := ⟨f - 1, by omega⟩
      obtain ⟨f', rfl⟩ : ∃ m, f' = m + 1 := ⟨f' - 1, by omega⟩
      have ha := atruleF_bounds ts E j hj
      show (if _ then _ else _) = (if _ then _ else _)
      rw [if_pos hj, if_pos hj]
      split
      · exact ih _ f f' (by omega) (by omega) (by omega)
      · rename_i hk
        have hs := scanF_on ts (isK 17) E j hj (by
          cases hp : isK 17 (kdA ts j) with
          | false => rfl
          | true => exact absurd (isK2_iff.2 (.inr (isK_iff.1 hp))) hk)
        split
        · exact ih _ f f' (by omega) (by omega) (by omega)
        · split
          · rw [ih _ f f' (by omega) (by omega) (by omega)]
          · exact ih _ f f' (by omega) (by omega) (by omega)
    · rw [declsGo_end _ _ _ _ hj, declsGo_end _ _ _ _ hj]
theorem declsF_step (ts : List Tk) (E j : Nat) : declsF ts E j =
    if j < E then
      if isK2 13 17 (kdA ts j) = true then declsF ts E (j + 1)
      else if kdA ts j = 3 then declsF ts E (atruleF ts E j).2
      else if declB ts (scanF ts (isK 17) E j) j = true then declF ts (scanF ts (isK 17) E j) j :: declsF ts E (scanF ts (isK 17) E j)
      else declsF ts E (scanF ts (isK 17) E j)
    else [] := by
  unfold declsF
  rcases Nat.lt_or_ge j E with hj | hj
  · have ha := atruleF_bounds ts E j hj
    rw [declsGo_fuel ts E _ j _ (E - j - 1 + 1) (Nat.le_refl _) (Nat.le_refl _) (by omega)]
    show (if _ then _ else _) = _
    rw [if_pos hj, if_pos hj]
    split
    · exact declsGo_fuel ts E _ _ _ _ (Nat.le_refl _) (by omega) (Nat.le_refl _)
    · rename_i hk
      have hs := scanF_on ts (isK 17) E j hj (by
        cases hp : isK 17 (kdA ts j) with
        | false => rfl
        | true => exact absurd (isK2_iff.2 (.inr (isK_iff.1 hp))) hk)
      split
      · exact declsGo_fuel ts E _ _ _ _ (Nat.le_refl _) (by omega) (Nat.le_refl _)
      · split
        · rw [declsGo_fuel ts E _ _ _ _ (Nat.le_refl _) (by omega) (Nat.le_refl _)]
        · exact declsGo_fuel ts E _ _ _ _ (Nat.le_refl _) (by omega) (Nat.le_refl _)
  · rw [declsGo_end _ _ _ _ hj, if_neg (by omega)]
end
end Go.Proofs.Ytelbjnanpmdnnaa
