/- Numbers' texts: the program's walks. -/
import Derived.Test.YticlkjkombgchaaGreatDoorName
import Derived.Laws.IdiomStrings
namespace Go.Proofs.YticlkjkombgchaaGreatDoor
open Go.RowKit

/-- The bytes of a string. -/
def strB (s : ByteArray) : List UInt8 := s.data.toList
theorem strB_len (s : ByteArray) : (strB s).length = s.size := by unfold strB; rw [Array.length_toList]; rfl
def firstB (s : ByteArray) (c : UInt8) : Bool := decide ((strB s)[0]? = some c)
theorem extract_one (s : ByteArray) (hs : 1 ≤ s.size) (c : UInt8) : ((s.extract 0 1).toList == [c]) = firstB s c := by
  rw [ByteArray.toList_eq]
  have e : (s.extract 0 1).data.toList = (strB s).take 1 := by
    rw [show (s.extract 0 1).data = s.data.extract 0 1 from by simp [ByteArray.extract, ByteArray.copySlice], Array.toList_extract]
    simp [strB, List.extract]
  rw [e]
  unfold firstB
  have hl : 0 < (strB s).length := by rw [strB_len]; exact hs
  cases h : strB s with
  | nil => rw [h] at hl; simp at hl
  | cons x xs =>
    rw [Bool.eq_iff_iff, beq_iff_eq, decide_eq_true_iff]
    simp

set_option maxRecDepth 100000 in
set_option maxHeartbeats 1000000 in
theorem hasPrefixIn_one (s : ByteArray) (c : UInt8) (w : World) :
    Calls Tryz.prog 140 #[.string s, .string ⟨#[c]⟩] w (Tells (.bool (firstB s c)) w) := by
  by_cases hs : 1 ≤ s.size
  · have he := Lib.hid (extract_one s hs c)
    have hs' : (1 : Int) ≤ (s.size : Int) := by omega
    go_enter Tryz.func140, Tryz.ntmps140
    go_wp2
    go_ret
    exact ⟨ret_bool he.out, rfl⟩
  · have h0 : firstB s c = false := decide_eq_false (by rw [List.getElem?_eq_none (by rw [strB_len]; omega)]; simp)
    rw [h0]
    have hs' : ¬ (1 : Int) ≤ (s.size : Int) := by omega
    go_enter Tryz.func140, Tryz.ntmps140
    go_wp2
    go_ret
    exact ⟨rfl, rfl⟩
set_option maxRecDepth 100000 in
theorem hasPrefix_one (s : ByteArray) (c : UInt8) (w : World) :
    Calls Tryz.prog 107 #[.string s, .string ⟨#[c]⟩] w (Tells (.bool (firstB s c)) w) := by
  have h := fun w => hasPrefixIn_one s c w
  go_enter Tryz.func107, Tryz.ntmps107
  go_wp2_with fail
  refine (h _).mono ?_
  rintro e wq ⟨rfl, hwq⟩; replace hwq := hwq.symm; subst hwq
  go_wp2
  go_ret
  exact ⟨rfl, rfl⟩

def signedB (s : ByteArray) : Bool := firstB s 43 || firstB s 45
set_option maxRecDepth 100000 in
set_option maxHeartbeats 1000000 in
theorem isSigned_any (s : ByteArray) (w : World) : Calls Tryz.prog 71 #[.string s] w (Tells (.bool (signedB s)) w) := by
  have h1 := hasPrefix_one s 43 w
  have h2 := hasPrefix_one s 45 w
  unfold signedB
  generalize firstB s 43 = r1 at *
  generalize firstB s 45 = r2 at *
  cases r1 <;> cases r2
  all_goals
    go_enter Tryz.func71, Tryz.ntmps71
    go_wp2_with ((first | (go_at_call 107; with_reducible refine h1.mono ?_) | (go_at_call 107; with_reducible refine h2.mono ?_)); rintro e wq ⟨rfl, hwq⟩; replace hwq := hwq.symm; subst hwq)
    go_ret
    exact ⟨rfl, rfl⟩

/-- What the conversion of a string to bytes lays. -/
theorem conv_str (s : ByteArray) (w : World) : ∃ cap w', (convert 9 22 (.string s)).run Tryz.prog w = .ok (.slice (some ⟨w.heap.size, 0, none⟩) s.size cap) w' ∧ s.size ≤ cap ∧ Below w.heap.size w w' ∧
    ∀ (j : Nat) (b : UInt8), (strB s)[j]? = some b → w'.cell? ⟨w.heap.size, j, none⟩ = some (.int .u8 b.toNat) := by
  refine ⟨_, _, run_bytes_of_string w 9 22 5 s Tryz.underlying9 Tryz.underlying22 Tryz.underlying5, ?_, ?_, fun j b hb => ?_⟩
  · exact grownCap_ge _ _ _ _
  · exact ((Below.refl _ w).drew).alloc (Nat.le_refl _) _
  · have hj : j < (strB s).length := (List.getElem?_eq_some_iff.1 hb).1
    have hjs : j < s.data.size := by unfold strB at hj; simpa using hj
    have hv : (bytesRow s (grownCap w s.size 0 5))[j]? = some (Value.int .u8 b.toNat) := by
      unfold bytesRow
      rw [Array.getElem?_append_left (by simpa using hjs), Array.getElem?_map]
      have : s.data[j]? = some b := by rw [← hb]; unfold strB; simp
      rw [this]; rfl
    have hh : (w.drew.alloc (.cells (bytesRow s (grownCap w s.size 0 5)) 5 ((bytesRow s (grownCap w s.size 0 5)).size, (bytesRow s (grownCap w s.size 0 5)).size + 1))).heap[w.heap.size]? = some (.cells (bytesRow s (grownCap w s.size 0 5)) 5 ((bytesRow s (grownCap w s.size 0 5)).size, (bytesRow s (grownCap w s.size 0 5)).size + 1)) := heap_alloc_new w.drew _
    simp only [World.cell?, hh]
    simpa using hv

/-- A string behind its first byte. -/
def tailS (s : ByteArray) : ByteArray := s.extract 1 s.size
def bytesAll (s : ByteArray) : Bool := (strB s).all fun b => digitB b.toNat
def numB (s : ByteArray) : Bool := if signedB s then bytesAll (tailS s) && decide (0 < (tailS s).size) else bytesAll s && decide (0 < s.size)
theorem signedB_pos {s : ByteArray} (h : signedB s = true) : 1 ≤ s.size := by
  rcases Nat.eq_zero_or_pos s.size with h0 | h0
  · have : strB s = [] := List.length_eq_zero_iff.1 (by rw [strB_len]; exact h0)
    unfold signedB firstB at h
    rw [this] at h
    simp at h
  · exact h0
theorem tailS_size (s : ByteArray) : (tailS s).size = s.size - 1 := by unfold tailS; simp [ByteArray.size_extract]

theorem str_ne_empty (s : ByteArray) : (!s.toList.isEmpty) = decide (0 < s.size) := by
  rw [ByteArray.toList_eq, ← strB_len]
  show (!(strB s).isEmpty) = _
  cases strB s <;> simp

set_option maxRecDepth 100000 in
set_option maxHeartbeats 4000000 in
theorem isNumber_any (s : ByteArray) (w : World) (hs : s.size ≤ 1000000) : Calls Tryz.prog 41 #[.string s] w (Told (.bool (numB s)) w) := by
  have h1 := isSigned_any s w
  rcases hsg : signedB s with _ | _
  · rw [hsg] at h1
    have hne := hsg
    go_enter Tryz.func41, Tryz.ntmps41
    go_wp2_with fail
    refine h1.mono ?_
    rintro e wq ⟨rfl, hwq⟩; replace hwq := hwq.symm; subst hwq
    obtain ⟨cap, w2, hrun, hcap, hb2, hcells⟩ := conv_str s w
    have hcs : ∀ (j : Nat), j < s.size → ∃ b : UInt8, (strB s)[j]? = some b := fun j hj => ⟨_, List.getElem?_eq_getElem (by rw [strB_len]; exact hj)⟩
    have hszl : (strB s).length = s.size := strB_len _
    have HBA : Hid (bytesAll s = (strB s).all fun b => digitB b.toNat) := Lib.hid rfl
    go_wp2_with fail
    go_loopw [12] (fun i wr => ∃ k : Nat, k ≤ s.size ∧ i = .int .i64 k ∧ Hid (((strB s).take k).all (fun b => digitB b.toNat) = true) ∧ wr = w2) (fun i _ => s.size - (intOf i).toNat)
    case atStart => exact ⟨0, by omega, rfl, Lib.hid rfl, rfl⟩
    case round =>
      obtain ⟨k, hk, rfl, hall, rfl⟩ := hrel
      by_cases hlt : k < s.size
      · obtain ⟨b, hb⟩ := hcs k hlt
        have hc := hcells k b hb
        have hbl := b.toNat_lt
        have hlt' : (k : Int) < (s.size : Int) := by omega
        have hd := fun w => digit_any (b.toNat : Int) w ⟨by omega, by omega⟩
        have hw : wrap64 (b.toNat : Int) = b.toNat := by unfold wrap64; omega
        have htk : (strB s).take (k + 1) = (strB s).take k ++ [b] := by rw [List.take_add_one, hb]; rfl
        have hd1 : ((strB s).take (k + 1)).all (fun b => digitB b.toNat) = digitB b.toNat := by rw [htk, List.all_append, hall.out]; simp
        have HD := Lib.hid hd1; clear hd1
        have hfls : digitB b.toNat = false → bytesAll s = false := fun h => by
          rw [HBA.out, List.all_eq_false]
          exact ⟨b, List.mem_of_getElem? hb, by rw [h]; decide⟩
        have HF := Lib.hid hfls; clear hfls hcells hcs htk hall HBA
        generalize digitB b.toNat = r at *
        cases r
        · have hN : numB s = false := by unfold numB; rw [hsg, if_neg (by decide)]; rw [HF.out rfl]; rfl
          go_wp2_with (go_at_call 72; refine (hd _).mono ?_; rintro e wq ⟨rfl, hwq⟩; replace hwq := hwq.symm; subst hwq)
          go_ret
          exact ⟨by rw [hN]; rfl, hb2⟩
        · go_wp2_with (go_at_call 72; refine (hd _).mono ?_; rintro e wq ⟨rfl, hwq⟩; replace hwq := hwq.symm; subst hwq)
          go_roundw
          case rel => exact ⟨k + 1, by omega, by go_num, HD, by first | rfl | trivial⟩
          case measure => simp [intOf]; omega
      · have hke : k = s.size := by omega
        have hA : bytesAll s = true := by rw [HBA.out, ← hall.out, hke, ← hszl, List.take_length]
        have hN : numB s = decide (0 < s.size) := by unfold numB; rw [hsg, if_neg (by decide)]; rw [hA]; rfl
        have HE := Lib.hid (str_ne_empty s)
        subst hke
        clear hcells hcs hall HBA hA
        go_wp2
        go_ret
        exact ⟨by rw [hN, ← HE.out]; rfl, hb2⟩
  · have hs1 := signedB_pos hsg
    have hs1' : (1 : Int) ≤ (s.size : Int) := by omega
    have hT : s.extract 1 s.size = tailS s := rfl
    have htz := tailS_size s
    rw [hsg] at h1
    go_enter Tryz.func41, Tryz.ntmps41
    go_wp2_with fail
    refine h1.mono ?_
    rintro e wq ⟨rfl, hwq⟩; replace hwq := hwq.symm; subst hwq
    have htz' : (tailS s).size ≤ 1000000 := by omega
    clear htz
    generalize hG : tailS s = t at *
    have HG := Lib.hid hG; clear hG
    obtain ⟨cap, w2, hrun, hcap, hb2, hcells⟩ := conv_str t w
    have hcs : ∀ (j : Nat), j < t.size → ∃ b : UInt8, (strB t)[j]? = some b := fun j hj => ⟨_, List.getElem?_eq_getElem (by rw [strB_len]; exact hj)⟩
    have hszl : (strB t).length = t.size := strB_len _
    have HBA : Hid (bytesAll t = (strB t).all fun b => digitB b.toNat) := Lib.hid rfl
    go_wp2_with fail
    go_loopw [12] (fun i wr => ∃ k : Nat, k ≤ t.size ∧ i = .int .i64 k ∧ Hid (((strB t).take k).all (fun b => digitB b.toNat) = true) ∧ wr = w2) (fun i _ => t.size - (intOf i).toNat)
    case atStart => exact ⟨0, by omega, rfl, Lib.hid rfl, rfl⟩
    case round =>
      obtain ⟨k, hk, rfl, hall, rfl⟩ := hrel
      by_cases hlt : k < t.size
      · obtain ⟨b, hb⟩ := hcs k hlt
        have hc := hcells k b hb
        have hbl := b.toNat_lt
        have hlt' : (k : Int) < (t.size : Int) := by omega
        have hd := fun w => digit_any (b.toNat : Int) w ⟨by omega, by omega⟩
        have hw : wrap64 (b.toNat : Int) = b.toNat := by unfold wrap64; omega
        have htk : (strB t).take (k + 1) = (strB t).take k ++ [b] := by rw [List.take_add_one, hb]; rfl
        have hd1 : ((strB t).take (k + 1)).all (fun b => digitB b.toNat) = digitB b.toNat := by rw [htk, List.all_append, hall.out]; simp
        have HD := Lib.hid hd1; clear hd1
        have hfls : digitB b.toNat = false → bytesAll t = false := fun h => by
          rw [HBA.out, List.all_eq_false]
          exact ⟨b, List.mem_of_getElem? hb, by rw [h]; decide⟩
        have HF := Lib.hid hfls; clear hfls hcells hcs htk hall HBA
        generalize digitB b.toNat = r at *
        cases r
        · have hN : numB s = false := by unfold numB; rw [hsg, if_pos rfl, HG.out]; rw [HF.out rfl]; rfl
          go_wp2_with (go_at_call 72; refine (hd _).mono ?_; rintro e wq ⟨rfl, hwq⟩; replace hwq := hwq.symm; subst hwq)
          go_ret
          exact ⟨by rw [hN]; rfl, hb2⟩
        · go_wp2_with (go_at_call 72; refine (hd _).mono ?_; rintro e wq ⟨rfl, hwq⟩; replace hwq := hwq.symm; subst hwq)
          go_roundw
          case rel => exact ⟨k + 1, by omega, by go_num, HD, by first | rfl | trivial⟩
          case measure => simp [intOf]; omega
      · have hke : k = t.size := by omega
        have hA : bytesAll t = true := by rw [HBA.out, ← hall.out, hke, ← hszl, List.take_length]
        have hN : numB s = decide (0 < t.size) := by unfold numB; rw [hsg, if_pos rfl, HG.out]; rw [hA]; rfl
        have HE := Lib.hid (str_ne_empty t)
        subst hke
        clear hcells hcs hall HBA hA
        go_wp2
        go_ret
        exact ⟨by rw [hN, ← HE.out]; rfl, hb2⟩
end Go.Proofs.YticlkjkombgchaaGreatDoor
