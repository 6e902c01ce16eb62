/- The parts between blanks, gone through by a ranged function: walks of the iterator and of what asks it for a word. -/
import Derived.Test.YtkpjkeplbjkigaaDoorLw
import Derived.Test.YtkpjkeplbjkigaaDoorShelf
import Derived.RangeFuncFrom
import Derived.RangeFuncNested
import Derived.RangeFuncBound
import Derived.RangeFuncCalls
import Derived.RangeFuncLeaves
import Derived.Shelf.Abstract
import Derived.Shelf.RegionOpen
import Derived.WalkKit
import Derived.OwnWalkIn
import Derived.TacticsInMore
import Derived.LoopNIn
import Derived.LoopIn
namespace Go.Proofs.YtkpjkeplbjkigaaDoor
open Go.RowKit Go.Shelf

/-- A character that parts words. -/
def blankR (r : Int) : Bool := spaceB r || decide (r = 13) || decide (r = 12)

set_option maxRecDepth 100000 in
set_option maxHeartbeats 1000000 in
theorem isBlank_any (r : Int) (w : World) (hc : Ch r) : Calls Tryd.prog 67 #[.int .i32 r] w (Tells (.bool (blankR r)) w) := by
  have hs := fun w => space_any r w hc
  unfold blankR
  obtain ⟨h0, h1⟩ := hc
  have hw : wrap64 r = r := by unfold wrap64; omega
  rcases (show (r = 13) ∨ (r = 12) ∨ (r ≠ 13 ∧ r ≠ 12) from by omega) with h | h | ⟨q0, q1⟩
  · have hsp : spaceB r = false := decide_eq_false (by omega)
    rw [hsp, show decide (r = 13) = true from decide_eq_true h]
    rw [hsp] at hs
    have n0 : (r == 13) = true := beq_iff_eq.2 h
    clear h hsp
    go_enter Tryd.func67, Tryd.ntmps67
    go_wp2_with (go_at_call 33; refine (hs _).mono ?_; rintro e w1 ⟨rfl, rfl⟩)
    go_ret
    exact ⟨rfl, rfl⟩
  · have hsp : spaceB r = false := decide_eq_false (by omega)
    rw [hsp, show decide (r = 13) = false from decide_eq_false (by omega), show decide (r = 12) = true from decide_eq_true h]
    rw [hsp] at hs
    have n0 : (r == 13) = false := beq_eq_false_iff_ne.2 (by omega)
    have n1 : (r == 12) = true := beq_iff_eq.2 h
    clear h hsp
    go_enter Tryd.func67, Tryd.ntmps67
    go_wp2_with (go_at_call 33; refine (hs _).mono ?_; rintro e w1 ⟨rfl, rfl⟩)
    go_ret
    exact ⟨rfl, rfl⟩
  · rw [show decide (r = 13) = false from decide_eq_false q0, show decide (r = 12) = false from decide_eq_false q1]
    have n0 : (r == 13) = false := beq_eq_false_iff_ne.2 q0
    have n1 : (r == 12) = false := beq_eq_false_iff_ne.2 q1
    generalize spaceB r = p at *
    cases p
    all_goals
      go_enter Tryd.func67, Tryd.ntmps67
      go_wp2_with (go_at_call 33; refine (hs _).mono ?_; rintro e w1 ⟨rfl, rfl⟩)
      go_ret
      exact ⟨rfl, rfl⟩

/-- What is open of a part at a place. -/
def openP (l : List UInt8) (a : Option Nat) (k : Nat) : List UInt8 := match a with | some x => (l.drop x).take (k - x) | none => []
theorem openP_ne (l : List UInt8) (x k : Nat) (h : x < k) (hk : k ≤ l.length) : openP l (some x) k ≠ [] := by
  intro e
  have := congrArg List.length e
  unfold openP at this
  rw [List.length_take, List.length_drop] at this
  simp at this; omega
theorem openP_grow (l : List UInt8) (x k n : Nat) (h : x ≤ k) : openP l (some x) k ++ (l.drop k).take n = openP l (some x) (k + n) := Lib.pieceU_grow l x k n h
theorem openP_new (l : List UInt8) (k n : Nat) : (l.drop k).take n = openP l (some k) (k + n) := by show _ = (l.drop k).take (k + n - k); rw [Nat.add_sub_cancel_left]
theorem strB_extract (s : ByteArray) (a b : Nat) : strB (s.extract a b) = ((strB s).drop a).take (b - a) := Lib.extract_data s a b
theorem blankB_R (b : UInt8) : blankR (b.toNat : Int) = blankB b := by
  have h : ∀ b : Fin 256, blankR ((UInt8.ofNat b.val).toNat : Int) = blankB (UInt8.ofNat b.val) := by decide +kernel
  have := h ⟨b.toNat, b.toNat_lt⟩
  simpa using this

/-- What the decoder tells at a place of a text. -/
theorem rune_at (s : ByteArray) (k : Nat) (hk : k < s.size) : ∃ R K : Nat, Lib.decodeGo (s.extract k s.size) = (R, K) ∧ 1 ≤ K ∧ k + K ≤ s.size ∧ Ch (R : Int) ∧
    (blankR R = true → ∀ cur, wordsGo cur ((strB s).drop k) = (if cur = [] then [] else [cur]) ++ wordsGo [] ((strB s).drop (k + K))) ∧
    (blankR R = false → ∀ cur, wordsGo cur ((strB s).drop k) = wordsGo (cur ++ ((strB s).drop k).take K) ((strB s).drop (k + K))) := by
  have hkl : k < (strB s).length := by rw [strB_len]; exact hk
  have hl : 0 < ((strB s).drop k).length := by rw [List.length_drop]; omega
  have hd : Lib.decodeGo (s.extract k s.size) = Lib.decodeL ((strB s).drop k) := by
    have hx : (s.extract k s.size).data.toList = (strB s).drop k := by
      have := strB_extract s k s.size
      rw [List.take_of_length_le (by rw [List.length_drop, strB_len]; exact Nat.le_refl _)] at this
      exact this
    have hz : (s.extract k s.size).size ≠ 0 := by rw [ByteArray.size_extract]; omega
    have e : s.extract k s.size = ⟨((strB s).drop k).toArray⟩ := by rw [← hx]
    unfold Lib.decodeGo Lib.decodeL
    rw [if_neg hz, e]
  have hc : (strB s).drop k = (strB s)[k] :: (strB s).drop (k + 1) := List.drop_eq_getElem_cons hkl
  have hg : ((strB s).drop k).getD 0 0 = (strB s)[k] := by rw [hc]; rfl
  by_cases h0 : 128 ≤ (((strB s).drop k).getD 0 0).toNat
  · obtain ⟨d1, d2, d3, d4, d5⟩ := decode_high _ hl h0
    refine ⟨(Lib.decodeL ((strB s).drop k)).1, (Lib.decodeL ((strB s).drop k)).2, hd, d3, ?_, ⟨by omega, by omega⟩, fun hb => ?_, fun _ cur => ?_⟩
    · rw [List.length_drop, strB_len] at d4; omega
    · have : blankR ((Lib.decodeL ((strB s).drop k)).1 : Int) = false := by
        unfold blankR spaceB
        simp
        omega
      rw [this] at hb; cases hb
    · have := wordsGo_skip (((strB s).drop k).take (Lib.decodeL ((strB s).drop k)).2) cur (((strB s).drop k).drop (Lib.decodeL ((strB s).drop k)).2) d5
      rw [List.take_append_drop, List.drop_drop] at this
      exact this
  · have hlt : (strB s)[k].toNat < 128 := by rw [← hg]; omega
    have he : Lib.decodeL ((strB s).drop k) = ((strB s)[k].toNat, 1) := by rw [hc]; exact Lib.decodeL_ascii _ _ hlt
    refine ⟨_, _, hd.trans he, Nat.le_refl _, hk, ⟨by omega, by omega⟩, fun hb cur => ?_, fun hb cur => ?_⟩
    · rw [blankB_R] at hb
      rw [hc, wordsGo, if_pos hb]
    · rw [blankB_R] at hb
      rw [hc, wordsGo, if_neg (by rw [hb]; simp)]
      rfl
attribute [local go_sem] Oper.semAt_some

set_option maxRecDepth 100000 in
set_option maxHeartbeats 4000000 in
/-- The iterator: for every loop body that keeps what lay below a place. -/
theorem seq1_in (n l Bs Bf n0 : Nat) (s : ByteArray) (hn : 1 ≤ n) (hs : s.size ≤ 1000000) (J Jx : List ByteArray → World → Prop)
    (W : World) (hsz : Bs < n0 ∧ Bf < n0 ∧ n0 ≤ W.heap.size ∧ 2 < n0 ∧ 3 < n0) (hBs : W.cell? ⟨Bs, 0, none⟩ = some (.string s)) (hBf : W.cell? ⟨Bf, 0, none⟩ = some (.func (.func 67) #[] #[])) (hT : Lib.Utf8Tabs 2 3 W)
    (hTl : ∀ A B : World, Below n0 A B → Lib.Utf8Tabs 2 3 A → Lib.Utf8Tabs 2 3 B)
    (hJ : AbidesFrom W.heap.size J)
    (hY : ∀ pre x W1, J pre W1 → pre.length < (words (strB s)).length → YieldAt Fence.wide (n - 1) Tryd.prog l #[.string x] W1 fun e W' =>
      (e = .returned (.bool true) ∧ J (pre ++ [x]) W' ∧ Below n0 W1 W') ∨ (e = .returned (.bool false) ∧ Jx (pre ++ [x]) W'))
    (h0 : J [] W) :
    CallsIn Fence.wide n Tryd.prog 80 #[.func (.yield l) #[] #[], .pointer (some ⟨Bs, 0, none⟩), .pointer (some ⟨Bf, 0, none⟩)] W fun e W' => (∃ v, e = .returned v) ∧
      ((∃ ys, ys.map strB = words (strB s) ∧ J ys W') ∨ (∃ pre, (∃ q, pre.map strB ++ q = words (strB s)) ∧ Jx pre W')) := by
  obtain ⟨hs1, hs2, hs3, hs4, hs5⟩ := hsz
  have HTL := Lib.hid hTl
  have HT := Lib.hid hT
  have HY := Lib.hid hY
  have HJ := Lib.hid hJ
  clear hTl hT hY hJ
  have hro : Fence.wide.round = none := rfl
  refine callsIn_of_wp Tryd.func80 rfl trivial ?_ hro
  simp only [Tryd.ntmps80, List.size_toArray, List.length_cons, List.length_nil, Nat.reduceAdd, Nat.reduceSub, Array.replicate_succ, Array.replicate_zero, List.push_toArray, List.append_toArray, List.nil_append, List.cons_append]
  gi_wp2
  gi_loopw [4, 5] (fun st i wr => ∃ (k : Nat) (a : Option Nat) (pre : List ByteArray), k ≤ s.size ∧ i = .int .i64 k ∧ st = .int .i64 (match a with | some x => (x : Int) | none => -1) ∧ (∀ x, a = some x → x < k) ∧
      Hid (pre.map strB ++ wordsGo (openP (strB s) a k) ((strB s).drop k) = words (strB s)) ∧ J pre wr ∧ Below n0 W wr)
    (fun _ i _ => s.size - (intOf i).toNat)
  case atStart => exact ⟨0, none, [], Nat.zero_le _, rfl, rfl, fun _ h => (by cases h), Lib.hid rfl, h0, Below.refl _ _⟩
  case round =>
    obtain ⟨k, a, pre, hk, rfl, rfl, hak, hw, hJs, hnx⟩ := hrel
    have hBs1 : wr.cell? ⟨Bs, 0, none⟩ = some (.string s) := (hnx.cell (p := ⟨Bs, 0, none⟩) hs1).trans hBs
    have hBf1 : wr.cell? ⟨Bf, 0, none⟩ = some (.func (.func 67) #[] #[]) := (hnx.cell (p := ⟨Bf, 0, none⟩) hs2).trans hBf
    have hw1 : W.heap.size ≤ wr.heap.size := hnx.size
    have HW := hw
    clear hw
    by_cases hlt : k < s.size
    · obtain ⟨R, K, hd, hK1, hK2, hC, hbl, hnb⟩ := rune_at s k hlt
      have hD := fun w h => Tryd.utf8_DecodeRuneInString (s.extract k s.size) w h
      rw [hd] at hD
      have hB := fun w => isBlank_any R w hC
      have HBL := Lib.hid hbl
      have HNB := Lib.hid hnb
      clear hbl hnb hd
      have hC' := hC
      obtain ⟨c0, c1⟩ := hC'
      have hlt' : (k : Int) < (s.size : Int) := by omega
      have hDr := hD wr (HTL.out _ _ hnx HT.out)
      clear hD
      have hkl : k < (strB s).length := by rw [strB_len]; exact hlt
      cases hbb : blankR (R : Int)
      · rw [hbb] at hB HNB
        have hN := fun cur => HNB.out rfl cur
        cases a with
        | none =>
          have HW2 : Hid (pre.map strB ++ wordsGo (openP (strB s) (some k) (k + K)) ((strB s).drop (k + K)) = words (strB s)) := by
            refine Lib.hid ?_
            have := HW.out
            rw [hN] at this
            rw [← openP_new]
            exact this
          have HK := Lib.hid hK1
          clear HW hN HBL HNB hak hK1 hbb hkl
          gi_wp2
          refine ⟨trivial, ?_⟩
          refine (callsIn_wide.2 hDr).mono ?_
          rintro e w2 ⟨rfl, hb2⟩
          have hBf2 : w2.cell? ⟨Bf, 0, none⟩ = some (.func (.func 67) #[] #[]) := (hb2.cell (p := ⟨Bf, 0, none⟩) (show Bf < wr.heap.size from by omega)).trans hBf1
          have HJ2 := Lib.hid (HJ.out pre wr w2 none hJs (grown_of_below hb2) (fun r e => by cases e))
          have hbn2 : Below n0 wr w2 := hb2.mono (by omega)
          clear hDr hJs
          gi_wp2
          refine ⟨trivial, ?_⟩
          refine (callsIn_wide.2 (hB _)).mono ?_
          rintro e w3 ⟨rfl, hw3⟩
          replace hw3 := hw3.symm
          subst hw3
          gi_wp2
          go_roundw
          case rel => exact ⟨k + K, some k, pre, hK2, by go_num, rfl, fun x hx => by cases hx; have := HK.out; omega, HW2, HJ2.out, hnx.trans hbn2⟩
          case measure => have := HK.out; simp [intOf]; omega
        | some x =>
          have hxk := hak x rfl
          have HW2 : Hid (pre.map strB ++ wordsGo (openP (strB s) (some x) (k + K)) ((strB s).drop (k + K)) = words (strB s)) := by
            refine Lib.hid ?_
            have := HW.out
            rw [hN, openP_grow _ _ _ _ (Nat.le_of_lt hxk)] at this
            exact this
          have HK := Lib.hid hK1
          have hx0 : decide ((x : Int) < 0) = false := decide_eq_false (by omega)
          clear HW hN HBL HNB hak hK1 hbb hkl
          gi_wp2
          refine ⟨trivial, ?_⟩
          refine (callsIn_wide.2 hDr).mono ?_
          rintro e w2 ⟨rfl, hb2⟩
          have hBf2 : w2.cell? ⟨Bf, 0, none⟩ = some (.func (.func 67) #[] #[]) := (hb2.cell (p := ⟨Bf, 0, none⟩) (show Bf < wr.heap.size from by omega)).trans hBf1
          have HJ2 := Lib.hid (HJ.out pre wr w2 none hJs (grown_of_below hb2) (fun r e => by cases e))
          have hbn2 : Below n0 wr w2 := hb2.mono (by omega)
          clear hDr hJs
          gi_wp2
          refine ⟨trivial, ?_⟩
          refine (callsIn_wide.2 (hB _)).mono ?_
          rintro e w3 ⟨rfl, hw3⟩
          replace hw3 := hw3.symm
          subst hw3
          gi_wp2
          go_roundw
          case rel => exact ⟨k + K, some x, pre, hK2, by go_num, rfl, fun y hy => by cases hy; omega, HW2, HJ2.out, hnx.trans hbn2⟩
          case measure => have := HK.out; simp [intOf]; omega
      · rw [hbb] at hB HBL
        have hN := fun cur => HBL.out rfl cur
        cases a with
        | none =>
          have HW2 : Hid (pre.map strB ++ wordsGo (openP (strB s) none (k + K)) ((strB s).drop (k + K)) = words (strB s)) := by
            refine Lib.hid ?_
            have := HW.out
            rw [hN] at this
            exact this
          have HK := Lib.hid hK1
          clear HW hN HBL HNB hak hK1 hbb hkl
          gi_wp2
          refine ⟨trivial, ?_⟩
          refine (callsIn_wide.2 hDr).mono ?_
          rintro e w2 ⟨rfl, hb2⟩
          have hBf2 : w2.cell? ⟨Bf, 0, none⟩ = some (.func (.func 67) #[] #[]) := (hb2.cell (p := ⟨Bf, 0, none⟩) (show Bf < wr.heap.size from by omega)).trans hBf1
          have HJ2 := Lib.hid (HJ.out pre wr w2 none hJs (grown_of_below hb2) (fun r e => by cases e))
          have hbn2 : Below n0 wr w2 := hb2.mono (by omega)
          clear hDr hJs
          gi_wp2
          refine ⟨trivial, ?_⟩
          refine (callsIn_wide.2 (hB _)).mono ?_
          rintro e w3 ⟨rfl, hw3⟩
          replace hw3 := hw3.symm
          subst hw3
          gi_wp2
          go_roundw
          case rel => exact ⟨k + K, none, pre, hK2, by go_num, rfl, (fun y hy => by cases hy), HW2, HJ2.out, hnx.trans hbn2⟩
          case measure => have := HK.out; simp [intOf]; omega
        | some x =>
          have hxk := hak x rfl
          have hW0 : (pre ++ [s.extract x k]).map strB ++ wordsGo [] ((strB s).drop (k + K)) = words (strB s) := by
            have := HW.out
            rw [hN, if_neg (openP_ne _ _ _ hxk (Nat.le_of_lt hkl)), ← List.append_assoc] at this
            rw [List.map_append, List.map_cons, List.map_nil, strB_extract]
            exact this
          have hlen : pre.length < (words (strB s)).length := by
            have := congrArg List.length hW0
            rw [List.length_append, List.length_map, List.length_append] at this
            simp at this; omega
          have HW2 := Lib.hid hW0
          have HLEN := Lib.hid hlen
          have HK := Lib.hid hK1
          have hx0 : (0 : Int) ≤ (x : Int) := by omega
          have hxk' : (x : Int) ≤ (k : Int) := by omega
          have hks : (k : Int) ≤ (s.size : Int) := by omega
          clear HW hN HBL HNB hak hK1 hbb hkl hW0 hlen
          gi_wp2
          refine ⟨trivial, ?_⟩
          refine (callsIn_wide.2 hDr).mono ?_
          rintro e w2 ⟨rfl, hb2⟩
          have hBf2 : w2.cell? ⟨Bf, 0, none⟩ = some (.func (.func 67) #[] #[]) := (hb2.cell (p := ⟨Bf, 0, none⟩) (show Bf < wr.heap.size from by omega)).trans hBf1
          have HJ2 := Lib.hid (HJ.out pre wr w2 none hJs (grown_of_below hb2) (fun r e => by cases e))
          have hbn2 : Below n0 wr w2 := hb2.mono (by omega)
          clear hDr hJs
          have hBs2 : w2.cell? ⟨Bs, 0, none⟩ = some (.string s) := (hb2.cell (p := ⟨Bs, 0, none⟩) (show Bs < wr.heap.size from by omega)).trans hBs1
          obtain ⟨fn, tmps, assign, body, hy, hR⟩ := HY.out pre (s.extract x k) w2 HJ2.out HLEN.out
          gi_wp2
          refine ⟨trivial, ?_⟩
          refine (callsIn_wide.2 (hB _)).mono ?_
          rintro e w3 ⟨rfl, hw3⟩
          replace hw3 := hw3.symm
          subst hw3
          gi_wp2
          refine hR.mono ?_
          rintro e W3 (⟨rfl, hJ3, hk3⟩ | ⟨rfl, hJx3⟩)
          · have HJ3 := Lib.hid hJ3
            clear hR hJ3
            gi_wp2
            go_roundw
            case rel => exact ⟨k + K, none, pre ++ [s.extract x k], hK2, by go_num, rfl, (fun y hy => by cases hy), HW2, HJ3.out, (hnx.trans hbn2).trans hk3⟩
            case measure => have := HK.out; simp [intOf]; omega
          · have HJ3 := Lib.hid hJx3
            clear hR hJx3
            gi_wp2
            refine bodyPost_ret (results_none rfl _ _ _) rfl ?_
            exact ⟨⟨_, rfl⟩, .inr ⟨pre ++ [s.extract x k], ⟨_, HW2.out⟩, HJ3.out⟩⟩
    · obtain rfl : k = s.size := by omega
      have hdrop : (strB s).drop s.size = [] := List.drop_eq_nil_of_le (by rw [strB_len]; exact Nat.le_refl _)
      cases a with
      | none =>
        have HW2 : Hid (pre.map strB = words (strB s)) := by
          refine Lib.hid ?_
          have := HW.out
          rw [hdrop] at this
          simpa [openP, wordsGo] using this
        have HJ3 := Lib.hid hJs
        clear HW hak hdrop hJs
        gi_wp2
        go_end0
        exact ⟨⟨_, rfl⟩, .inl ⟨pre, HW2.out, HJ3.out⟩⟩
      | some x =>
        have hxk := hak x rfl
        have hW0 : (pre ++ [s.extract x s.size]).map strB = words (strB s) := by
          have := HW.out
          rw [hdrop, wordsGo, if_neg (openP_ne _ _ _ hxk (by rw [strB_len]; exact Nat.le_refl _))] at this
          rw [List.map_append, List.map_cons, List.map_nil, strB_extract]
          exact this
        have hlen : pre.length < (words (strB s)).length := by
          have := congrArg List.length hW0
          rw [List.length_map, List.length_append] at this
          simp at this; omega
        have hx0 : (0 : Int) ≤ (x : Int) := by omega
        have hxk' : (x : Int) ≤ (s.size : Int) := by omega
        obtain ⟨fn, tmps, assign, body, hy, hR⟩ := HY.out pre (s.extract x s.size) wr hJs hlen
        have HW2 := Lib.hid hW0
        clear HW hak hdrop hW0 hlen hJs
        gi_wp2
        refine hR.mono ?_
        rintro e W3 (⟨rfl, hJ3, hk3⟩ | ⟨rfl, hJx3⟩)
        · have HJ3 := Lib.hid hJ3
          clear hR hJ3
          gi_wp2
          go_end0
          exact ⟨⟨_, rfl⟩, .inl ⟨_, HW2.out, HJ3.out⟩⟩
        · have HJ3 := Lib.hid hJx3
          clear hR hJx3
          gi_wp2
          go_end0
          exact ⟨⟨_, rfl⟩, .inr ⟨_, ⟨[], by rw [List.append_nil]; exact HW2.out⟩, HJ3.out⟩⟩
end Go.Proofs.YtkpjkeplbjkigaaDoor
