/- The parts of a text between blanks, in new memory; whether two lists of texts are one: walks. -/
import Derived.Test.YtkpjkeplbjkigaaDoorFld
import Derived.Test.YtkpjkeplbjkigaaDoorVo
import Derived.Test.YtkpjkeplbjkigaaDoorShelfC
import Derived.Shelf.Abstract
namespace Go.Proofs.YtkpjkeplbjkigaaDoor
open Go.RowKit Go.Shelf
set_option linter.unusedVariables false

set_option maxRecDepth 100000 in
theorem clone_str (s : ByteArray) (w : World) (hs : s.size ≤ 1000000) : Calls Tryd.prog 34 #[.string s] w (Told (.string s) w) := by
  have hC := fun w => Tryd.stringslite_Clone s w (by omega)
  go_enter Tryd.func34, Tryd.ntmps34
  go_wp2_with fail
  refine (hC _).mono ?_
  rintro e w1 ⟨rfl, hb⟩
  go_wp2
  go_ret
  exact ⟨rfl, hb⟩

set_option maxRecDepth 100000 in
set_option maxHeartbeats 1000000 in
theorem isPart_any (r : Int) (w : World) (hc : Ch r) : Calls Tryd.prog 32 #[.int .i32 r] w (Tells (.bool (blankR r)) w) := by
  have hs := fun w => space_any r w hc
  unfold blankR
  obtain ⟨h0, h1⟩ := hc
  have hw : wrap64 r = r := by unfold wrap64; omega
  rcases (show (r = 13) ∨ (r = 12) ∨ (r ≠ 13 ∧ r ≠ 12) from by omega) with h | h | ⟨q0, q1⟩
  · have hsp : spaceB r = false := decide_eq_false (by omega)
    rw [hsp, show decide (r = 13) = true from decide_eq_true h]
    rw [hsp] at hs
    have n0 : (r == 13) = true := beq_iff_eq.2 h
    clear h hsp
    go_enter Tryd.func32, Tryd.ntmps32
    go_wp2_with (go_at_call 33; refine (hs _).mono ?_; rintro e w1 ⟨rfl, rfl⟩)
    go_ret
    exact ⟨rfl, rfl⟩
  · have hsp : spaceB r = false := decide_eq_false (by omega)
    rw [hsp, show decide (r = 13) = false from decide_eq_false (by omega), show decide (r = 12) = true from decide_eq_true h]
    rw [hsp] at hs
    have n0 : (r == 13) = false := beq_eq_false_iff_ne.2 (by omega)
    have n1 : (r == 12) = true := beq_iff_eq.2 h
    clear h hsp
    go_enter Tryd.func32, Tryd.ntmps32
    go_wp2_with (go_at_call 33; refine (hs _).mono ?_; rintro e w1 ⟨rfl, rfl⟩)
    go_ret
    exact ⟨rfl, rfl⟩
  · rw [show decide (r = 13) = false from decide_eq_false q0, show decide (r = 12) = false from decide_eq_false q1]
    have n0 : (r == 13) = false := beq_eq_false_iff_ne.2 q0
    have n1 : (r == 12) = false := beq_eq_false_iff_ne.2 q1
    generalize spaceB r = p at *
    cases p
    all_goals
      go_enter Tryd.func32, Tryd.ntmps32
      go_wp2_with (go_at_call 33; refine (hs _).mono ?_; rintro e w1 ⟨rfl, rfl⟩)
      go_ret
      exact ⟨rfl, rfl⟩

theorem parts_at (w : World) : PredAtRunes Tryd.prog 32 #[] partP w := fun W x hx _ =>
  (isPart_any (x : Int) W ⟨by omega, by omega⟩).mono (by rintro e w' ⟨rfl, rfl⟩; exact ⟨rfl, 0, rfl⟩)

/-- A slice of texts that lies below a place. -/
def RdS (w : World) (B : Nat) (a : Option Addr) (ss : List ByteArray) : Prop :=
  ss = [] ∨ ∃ g off, a = some ⟨g, off, none⟩ ∧ g < B ∧ ∀ i, i < ss.length → w.cell? ⟨g, off + i, none⟩ = some (.string (ss.getD i ⟨#[]⟩))
theorem RdS.later {w w' : World} {B B' : Nat} {a : Option Addr} {ss : List ByteArray} (h : RdS w B a ss) (hb : Below B' w w') (hB : B ≤ B') : RdS w' B a ss := by
  rcases h with h | ⟨g, off, ha, hg, hc⟩
  · exact .inl h
  · exact .inr ⟨g, off, ha, hg, fun i hi => (hb.cell (p := ⟨g, off + i, none⟩) (Nat.lt_of_lt_of_le hg hB)).trans (hc i hi)⟩
theorem RdS.mono {w : World} {B B' : Nat} {a : Option Addr} {ss : List ByteArray} (h : RdS w B a ss) (hB : B ≤ B') : RdS w B' a ss :=
  h.imp id fun ⟨g, off, ha, hg, hc⟩ => ⟨g, off, ha, Nat.lt_of_lt_of_le hg hB, hc⟩
theorem RdS.of_own {w : World} {base : Nat} {e : TypeId} {a : Option Addr} {n c : Nat} {ss : List ByteArray} (h : w.ownsRow base e 1 (.slice a n c) ss.length (ss.map Value.string)) : RdS w w.heap.size a ss := by
  by_cases h0 : ss = []
  · exact .inl h0
  · rcases h.2 with ⟨hv, hn⟩ | ⟨g, cap, cur, hv, hb, hg, hr⟩
    · exact absurd (List.length_eq_zero_iff.1 hn) h0
    · cases hv
      refine .inr ⟨g, 0, rfl, (h.lt g rfl).2, fun i hi => ?_⟩
      have := h.cellAt i (by omega)
      rw [Nat.zero_add, this, List.getElem?_map, List.getElem?_eq_getElem hi, List.getD_eq_getElem?_getD, List.getElem?_eq_getElem hi]; rfl

set_option maxRecDepth 100000 in
set_option maxHeartbeats 1000000 in
theorem texts_same (a1 a2 : Option Addr) (n c1 c2 : Nat) (ss : List ByteArray) (w : World) (hn : ss.length = n) (hm : n ≤ 100000000) (h1 : RdS w w.heap.size a1 ss) (h2 : RdS w w.heap.size a2 ss) :
    Calls Tryd.prog 13 #[.slice a1 n c1, .slice a2 n c2] w (Told (.bool true) w) := by
  have n0 : ((n : Int) == (n : Int)) = true := beq_self_eq_true _
  have H1 := Lib.hid h1
  have H2 := Lib.hid h2
  have HN := Lib.hid hn
  clear h1 h2 hn
  go_enter Tryd.func13, Tryd.ntmps13
  go_wp2
  go_loopw [5] (fun i wr => ∃ k : Nat, k ≤ n ∧ i = .int .i64 k ∧ Below w.heap.size w wr) (fun i _ => n - (intOf i).toNat)
  case atStart => exact ⟨0, Nat.zero_le _, rfl, Below.refl _ _⟩
  case round =>
    obtain ⟨k, hk, rfl, hbl⟩ := hrel
    by_cases hlt : k < n
    · have hlt' : (k : Int) < (n : Int) := by omega
      have hne : ss ≠ [] := fun h => by have := HN.out; rw [h] at this; simp at this; omega
      obtain ⟨g1, o1, rfl, hg1, hc1⟩ := (H1.out.later hbl (Nat.le_refl _)).resolve_left hne
      obtain ⟨g2, o2, rfl, hg2, hc2⟩ := (H2.out.later hbl (Nat.le_refl _)).resolve_left hne
      have e1 := hc1 k (by rw [HN.out]; exact hlt)
      have e2 := hc2 k (by rw [HN.out]; exact hlt)
      generalize ss.getD k ⟨#[]⟩ = t at e1 e2
      have q : (t.toList == t.toList) = true := beq_self_eq_true _
      clear hc1 hc2 hg1 hg2 hne
      go_wp2
      go_region
      go_wp2
      go_roundw
      case rel => exact ⟨k + 1, by omega, by go_num, hbl.drew⟩
      case measure => simp [intOf]; omega
    · have hlt' : ¬ (k : Int) < (n : Int) := by omega
      go_wp2
      go_ret
      exact ⟨rfl, hbl⟩

theorem wordsGo_len : ∀ (xs cur : List UInt8), (wordsGo cur xs).length ≤ xs.length + 1
  | [], cur => by rw [wordsGo]; split <;> simp
  | b :: xs, cur => by
    rw [wordsGo]
    split
    · have := wordsGo_len xs []
      rw [List.length_append, List.length_cons]
      have h1 : (if cur = [] then ([] : List (List UInt8)) else [cur]).length ≤ 1 := by split <;> simp
      omega
    · have := wordsGo_len xs (cur ++ [b])
      rw [List.length_cons]; omega
theorem words_len (s : ByteArray) : (words (strB s)).length ≤ s.size + 1 := by have := wordsGo_len (strB s) []; rw [strB_len] at this; exact this
theorem word_size {s x : ByteArray} (h : strB x ∈ words (strB s)) : x.size ≤ s.size := by
  have := (words_mem h).2.1
  have := this.length_le
  rwa [strB_len, strB_len] at this

set_option maxRecDepth 100000 in
set_option maxHeartbeats 4000000 in
theorem names_any (s : ByteArray) (w : World) (hs : s.size ≤ 1000000) : Calls Tryd.prog 14 #[.string s] w (ToldWords s w) := by
  have cF := fun w => Tryd.strings_FieldsFunc_runes 32 #[] (enters_of Tryd.func32 (by kernel_rfl) rfl) partP s w (by omega) (parts_at w)
  have hw := fieldsP_words s
  obtain ⟨L, hL⟩ : ∃ L, Lib.goFieldsP partP s = L := ⟨_, rfl⟩
  rw [hL] at cF hw
  clear hL
  have hlen : L.length ≤ s.size + 1 := by have := words_len s; rw [← hw, List.length_map] at this; exact this
  have hmem : ∀ x ∈ L, x.size ≤ s.size := fun x hx => word_size (by rw [← hw]; exact List.mem_map_of_mem hx)
  obtain ⟨n, hn⟩ : ∃ n, L.length = n := ⟨_, rfl⟩
  rw [hn] at cF hlen
  have HN := Lib.hid hn
  have HW := Lib.hid hw
  have HM := Lib.hid hmem
  clear hn hw hmem
  go_enter Tryd.func14, Tryd.ntmps14
  go_wp2_with fail
  refine (cF _).mono ?_
  rintro e w1 ⟨A, rfl, hA, hown1, hb1⟩
  have HO1 := Lib.hid hown1
  have HB1 := Lib.hid hb1
  clear hown1 hb1 cF
  go_wp2
  go_loopw [4, 5, 10] (fun _ _ i wr => ∃ k : Nat, k ≤ n ∧ i = .int .i64 k ∧ Hid (wr.ownsRow w.heap.size 9 1 (.slice (some ⟨A, 0, none⟩) n n) n (L.map Value.string)) ∧ Below w.heap.size w wr) (fun _ _ i _ => n - (intOf i).toNat)
  case atStart => exact ⟨0, Nat.zero_le _, rfl, HO1, HB1.out⟩
  case round =>
    obtain ⟨k, hk, rfl, hown, hbl⟩ := hrel
    by_cases hlt : k < n
    · have hlt' : (k : Int) < (n : Int) := by omega
      have hkL : k < L.length := by rw [HN.out]; exact hlt
      obtain ⟨x, hx⟩ : ∃ x, L[k]? = some x := ⟨_, List.getElem?_eq_getElem hkL⟩
      have hxs := HM.out x (List.mem_of_getElem? hx)
      have hv : (L.map Value.string)[k]? = some (.string x) := by rw [List.getElem?_map, hx]; rfl
      have hcell : wr.cell? ⟨A, k, none⟩ = some (.string x) := (hown.out.cellAt k (by omega)).trans hv
      have hset : (L.map Value.string).set k (.string x) = L.map Value.string := by
        apply List.ext_getElem?
        intro j
        rw [List.getElem?_set]
        split
        · rename_i h; subst h; rw [hv]; simp [hkL]
        · rfl
      have HS := Lib.hid hset
      have cC := fun w => clone_str x w (by omega)
      have HBL := Lib.hid hbl
      clear hset hv hx hkL hbl
      go_wp2_with fail
      refine (cC _).mono ?_
      rintro e w2 ⟨rfl, hb2⟩
      have hown2 := owns_later hown.out hb2
      have hcell2 : w2.cell? ⟨A, k, none⟩ = some (.string x) := (hb2.cell (p := ⟨A, k, none⟩) (World.block_lt_of_cell? _ _ hcell)).trans hcell
      have hf2 := hown2.frozenAt k
      have hst := hown2.stored k (.string x)
      rw [HS.out] at hst
      have HST := Lib.hid hst
      have hbl2 : Below w.heap.size w (w2.setCell ⟨A, k, none⟩ (.string x)) := (below_trans HBL.out hb2).trans (Below.of_grown hst.2 (below_trans HBL.out hb2).size (fun j hj => by cases hj; exact hA))
      have HB2 := Lib.hid hbl2
      clear hst hbl2 hown2 cC hcell
      go_wp2
      go_roundw
      case rel => exact ⟨k + 1, by omega, by go_num, Lib.hid HST.out.1, HB2.out⟩
      case measure => simp [intOf]; omega
    · have hlt' : ¬ (k : Int) < (n : Int) := by omega
      go_wp2
      go_ret
      exact ⟨_, L, rfl, by rw [HN.out]; exact hown.out, HW.out, by rw [HN.out]; exact hlen, hbl⟩
end Go.Proofs.YtkpjkeplbjkigaaDoor
