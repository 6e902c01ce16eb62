/- CharsJoined: the law's walk. -/
import Derived.Test.YtkpjkeplbjkigaaDoorCtx
import Derived.OwnWalk
import Derived.Laws.AppendOwnNone
namespace Go.Proofs.YtkpjkeplbjkigaaDoor
open Go.RowKit
set_option linter.unusedVariables false

/-- The append of a slice of cells to a row of one's own. -/
theorem wpList_append_strs {P : Program} {w : World} {ops : Array Oper} {rest : List Oper} {o : Oper} {a : Act} {Q : Exit → Act → World → Prop} (hgd : o.guard = none) (s x : Operand) (t : TypeId)
    (ho : o.op = .call { callee := .builtin .append, args := #[s, x], argTypes := #[t, t] })
    (base : Nat) (e : TypeId) (ht : P.underlying t = some (.slice e)) (hinfo : (P.info? e).map (fun i => (i.zero, i.size, i.bytes)) = some (some (.string ⟨#[]⟩), 1, 16))
    (v : Value) (n : Nat) (acc : List ByteArray) (hs : a.eval s = v) (hown : w.ownsRow base e 1 v n (acc.map Value.string))
    (ad : Option Addr) (m c B : Nat) (ss : List ByteArray) (hm : ss.length = m) (hx : a.eval x = .slice ad m c) (hr : RdS w B ad ss) (hnil : ad = none → c = 0)
    (hn : n ≤ 1000001) (hm2 : m ≤ 1000001) (hbase : base ≤ w.heap.size)
    (h : ∀ v' w', w'.ownsRow base e 1 v' (n + m) ((acc ++ ss).map Value.string) → w.grownBy w' v.ownBlock → wpList P ops Q rest (a.put o.dst v') w') : wpList P ops Q (o :: rest) a w := by
  obtain ⟨i, hi, hzz⟩ := Option.map_eq_some_iff.1 hinfo
  simp only [Prod.mk.injEq] at hzz
  obtain ⟨hz, hsz, hby⟩ := hzz
  subst hm
  rcases ad with _ | ad
  · have hz0 : ss = [] := by
      rcases hr with h0 | ⟨b, off, hb, _⟩
      · exact h0
      · cases hb
    subst hz0
    rw [hnil rfl] at hx
    exact wpList_append_own_none hgd s x t ho base e i 1 ht hi v n _ hs hown hx (h v w (by simpa using hown) (World.grownBy.refl _ _))
  · refine wpList_append_own w hgd s x t ho base e i (.string ⟨#[]⟩) 1 16 ht hi hz hsz hby rfl (by decide) v n _ hs hown ad ss.length c (ss.map Value.string) hx (by simp) ?_ (fun u hu => by obtain ⟨y, _, rfl⟩ := List.mem_map.1 hu; rfl) (by unfold maxLen; omega) (by omega) hbase (fun v' w' h1 h2 _ => h v' w' (by rw [List.map_append]; exact h1) h2)
    rcases hr with h0 | ⟨b, off, hb, _, hat⟩
    · subst h0; intro j u hu; simp at hu
    · cases hb
      intro j u hu
      rw [List.getElem?_map] at hu
      obtain ⟨y, hy, rfl⟩ := Option.map_eq_some_iff.1 hu
      have hj : j < ss.length := (List.getElem?_eq_some_iff.1 hy).1
      have := hat j hj
      rw [List.getD_eq_getElem?_getD, hy] at this
      rwa [show (⟨b, off, none⟩ : Addr).add j = ⟨b, off + j, none⟩ from by simp [Addr.add]]
theorem owns_emptyS {w : World} {g base : Nat} {e : TypeId} (h : w.heap[g]? = some (.cells #[] e (0, 0))) (hb : base ≤ g) : w.ownsRow base e 1 (.slice (some ⟨g, 0, none⟩) 0 0) 0 [] :=
  ⟨rfl, .inr ⟨g, 0, #[], rfl, hb, h, Nat.le_refl _, by simp [maxLen], rfl, rfl⟩⟩
theorem nil_of_own {w : World} {base : Nat} {e : TypeId} {a : Option Addr} {n n' c : Nat} {xs : List Value} (h : w.ownsRow base e 1 (.slice a n c) n' xs) : a = none → c = 0 := by
  rintro rfl
  rcases h.2 with ⟨hv, _⟩ | ⟨g, cap, cur, hv, _⟩
  · cases hv; rfl
  · cases hv

/-- The blanks, one of five. -/
def sepS (k : Nat) : ByteArray := (⟨#[32, 9, 10, 13, 12]⟩ : ByteArray).extract k (k + 1)
theorem sep_facts (k : Nat) (h : k < 5) : (sepS k).size = 1 ∧ ∃ b, strB (sepS k) = [b] ∧ blankB b = true := by
  have : k = 0 ∨ k = 1 ∨ k = 2 ∨ k = 3 ∨ k = 4 := by omega
  rcases this with rfl | rfl | rfl | rfl | rfl
  · exact ⟨by decide, 32, by decide, by decide⟩
  · exact ⟨by decide, 9, by decide, by decide⟩
  · exact ⟨by decide, 10, by decide, by decide⟩
  · exact ⟨by decide, 13, by decide, by decide⟩
  · exact ⟨by decide, 12, by decide, by decide⟩
theorem joined_words {a b sep : ByteArray} {c : UInt8} (hs : strB sep = [c]) (hc : blankB c = true) {s1 s2 s3 : List ByteArray} (h1 : s1.map strB = words (strB a)) (h2 : s2.map strB = words (strB b)) (h3 : s3.map strB = words (strB (a ++ sep ++ b))) : s3 = s1 ++ s2 := by
  apply strB_map_inj
  rw [h3, List.map_append, h1, h2, strB_app, strB_app, hs, List.append_assoc, ← words_blank _ _ _ hc]; rfl
theorem lower_words {a : ByteArray} {s1 s4 : List ByteArray} (h1 : s1.map strB = words (strB a)) (h4 : s4.map strB = words (strB (lowS a))) : s4 = s1.map lowS := by
  apply strB_map_inj
  rw [h4, strB_low, words_map lowB lowB_blank, ← h1, List.map_map, List.map_map]
  apply List.map_congr_left
  intro x _
  exact (strB_low x).symm

set_option maxRecDepth 100000 in
set_option maxHeartbeats 4000000 in
theorem lawJoined_any (a b : ByteArray) (x : Int) (hx0 : 0 ≤ x) (hx1 : x < 256) (w : World) (hT : Tab w) (ha : a.size ≤ maxLen) (hb : b.size ≤ maxLen) : Calls Tryd.prog 4 #[.string a, .string b, .int .u8 x] w fun e w' => e = .returned (.bool true) ∧ Below w.heap.size w w' := by
  have cS := speaks2_any w hT
  have hsa : a.size ≤ 9223372036854775807 := ha
  have hsb : b.size ≤ 9223372036854775807 := hb
  go_enter Tryd.func4, Tryd.ntmps4
  go_wp2_with fail
  refine cS.mono ?_
  rintro e w1 ⟨rfl, hb1⟩
  clear cS hT
  by_cases h1 : 1000 < a.size
  · have q : decide ((1000 : Int) < (a.size : Int)) = true := decide_eq_true (by omega)
    clear h1
    go_wp2
    go_ret
    exact ⟨rfl, hb1⟩
  have q : decide ((1000 : Int) < (a.size : Int)) = false := decide_eq_false (by omega)
  by_cases h2 : 1000 < b.size
  · have q2 : decide ((1000 : Int) < (b.size : Int)) = true := decide_eq_true (by omega)
    clear h1 h2
    go_wp2
    go_ret
    exact ⟨rfl, hb1⟩
  have q2 : decide ((1000 : Int) < (b.size : Int)) = false := decide_eq_false (by omega)
  have hma : a.size ≤ 1000 := by omega
  have hmb : b.size ≤ 1000 := by omega
  have cNa := fun w => names_any a w (by omega)
  have cNb := fun w => names_any b w (by omega)
  have cLa := fun w => lower_any a w hsa
  clear h1 h2 hsa hsb ha hb
  have HB1 := Lib.hid hb1
  have HMA := Lib.hid hma
  have HMB := Lib.hid hmb
  clear hb1 hma hmb
  go_wp2_with fail
  refine (cNa _).mono ?_
  rintro e w2 ⟨v1, s1, rfl, ho1, hw1, hl1, hb2⟩
  obtain ⟨a1, c1, rfl⟩ := own_slice ho1
  have hnl1 := nil_of_own ho1
  obtain ⟨n1, hn1⟩ : ∃ n, s1.length = n := ⟨_, rfl⟩
  have hr1 : RdS w2 w2.heap.size a1 s1 := RdS.of_own ho1
  rw [hn1] at hl1
  rw [hn1]
  have HN1 := Lib.hid hn1
  have HR1 := Lib.hid hr1
  have HW1 := Lib.hid hw1
  have HL1 := Lib.hid hl1
  have HNL1 := Lib.hid hnl1
  clear ho1 hw1 hl1 hr1 hn1 hnl1 cNa
  go_wp2_with fail
  refine (cNb _).mono ?_
  rintro e w3 ⟨v2, s2, rfl, ho2, hw2, hl2, hb3⟩
  obtain ⟨a2, c2, rfl⟩ := own_slice ho2
  have hnl2 := nil_of_own ho2
  obtain ⟨n2, hn2⟩ : ∃ n, s2.length = n := ⟨_, rfl⟩
  have hr2 : RdS w3 w3.heap.size a2 s2 := RdS.of_own ho2
  rw [hn2] at hl2
  rw [hn2]
  have HN2 := Lib.hid hn2
  have HR2 := Lib.hid hr2
  have HW2 := Lib.hid hw2
  have HL2 := Lib.hid hl2
  have HNL2 := Lib.hid hnl2
  have HR1b := Lib.hid ((HR1.out.later hb3 (Nat.le_refl _)).mono hb3.size)
  have HB3 := Lib.hid (below_trans HB1.out (below_trans hb2 hb3))
  clear ho2 hw2 hl2 hr2 hn2 hnl2 cNb hb2 hb3 HR1
  -- the blank
  obtain ⟨k, hk, hk5⟩ : ∃ k : Nat, x % 5 = (k : Int) ∧ k < 5 := ⟨(x % 5).toNat, by omega, by omega⟩
  have hks : ((k : Int) + 1) ≤ 5 := by omega
  have hkb : (k : Int) < 5 := by omega
  obtain ⟨hz, cb, hsb, hcb⟩ := sep_facts k hk5
  have HZ := Lib.hid (And.intro hz (And.intro hsb hcb))
  clear hz hsb hcb
  have own0 := Lib.hid (owns_emptyS (base := w3.heap.size) (heap_alloc_new w3 (.cells #[] 9)) (Nat.le_refl _))
  have HE0 := Lib.hid (show Below w3.heap.size w3 (w3.alloc (.cells #[] 9)) from (Below.refl _ _).alloc (Nat.le_refl _) _)
  go_wp2
  generalize hsep : (ByteArray.mk #[32, 9, 10, 13, 12]).extract k (k + 1) = sep
  have hF := HZ.out
  unfold sepS at hF
  rw [hsep] at hF
  have HF := Lib.hid hF
  clear HZ hsep hF hk hks hkb hk5
  go_loopw [10, 12, 36] (fun lv _ i wr => ∃ j : Nat, j ≤ n1 ∧ i = .int .i64 j ∧ Hid (wr.ownsRow w3.heap.size 9 1 lv j (((s1.take j).map lowS).map Value.string)) ∧ Below w3.heap.size w3 wr) (fun _ _ i _ => n1 - (intOf i).toNat)
  case atStart => exact ⟨0, Nat.zero_le _, rfl, Lib.hid own0.out, HE0.out⟩
  case round =>
    obtain ⟨j, hj, rfl, hown, hbl⟩ := hrel
    obtain ⟨la, lc, rfl⟩ := own_slice hown.out
    have HBL := Lib.hid hbl
    clear hbl
    by_cases hlt : j < n1
    · have hlt' : (j : Int) < (n1 : Int) := by omega
      have hne : s1 ≠ [] := fun h => by have := HN1.out; rw [h] at this; simp at this; omega
      obtain ⟨g1, o1, rfl, hg1, hc1⟩ := (HR1b.out.later HBL.out (Nat.le_refl _)).resolve_left hne
      have hjL : j < s1.length := by rw [HN1.out]; exact hlt
      have hcell := hc1 j hjL
      have hxx : s1[j]? = some (s1.getD j ⟨#[]⟩) := by rw [List.getD_eq_getElem?_getD, List.getElem?_eq_getElem hjL]; rfl
      generalize s1.getD j ⟨#[]⟩ = y at hcell hxx
      have hys : y.size ≤ 1000 := Nat.le_trans (word_size (by rw [← HW1.out]; exact List.mem_map_of_mem (List.mem_of_getElem? hxx))) HMA.out
      have cL := fun w => lower_any y w (by omega)
      have htk : (s1.take (j + 1)).map lowS = (s1.take j).map lowS ++ [lowS y] := by rw [List.take_add_one, hxx, List.map_append]; rfl
      have HTK := Lib.hid htk
      have hlen : ((s1.take j).map lowS).length = j := by rw [List.length_map, List.length_take]; omega
      have HLEN := Lib.hid hlen
      have hj2 : j ≤ 1000001 := by have := HL1.out; have := HMA.out; omega
      clear hc1 hne hxx hys htk hlen hjL hg1
      go_wp2_with fail
      refine (cL _).mono ?_
      rintro e w4 ⟨rfl, hb4⟩
      have hown4 := owns_later hown.out hb4
      have hbl4 := below_trans HBL.out hb4
      have hsz4 : w3.heap.size ≤ w4.heap.size := hbl4.size
      have HO4 := Lib.hid hown4
      have HB4 := Lib.hid hbl4
      clear hown4 hbl4 hb4 cL hcell
      generalize lowS y = ly at *
      go_wp2_with (at_builtin; refine wpList_append_str rfl _ _ 26 rfl w3.heap.size 9 Tryd.underlying26 TrydinfoStr _ j ((s1.take j).map lowS) rfl w4 ly rfl HO4.out rfl hj2 hsz4 ?_; intro v' w5 hown5 hgrow5)
      have HB5 := Lib.hid (show Below w3.heap.size w3 w5 from (HB4.out.alloc hsz4 _).grown hgrow5 (by simp <;> omega) (fun q hq => (HO4.out.lt q hq).1))
      have HO5 := Lib.hid (show w5.ownsRow w3.heap.size 9 1 v' (j + 1) (((s1.take (j + 1)).map lowS).map Value.string) from by rw [HTK.out]; exact hown5)
      clear hown5 hgrow5
      go_roundw
      case rel => exact ⟨j + 1, by omega, by go_num, Lib.hid HO5.out, HB5.out⟩
      case measure => simp [intOf]; omega
    · obtain rfl : j = n1 := by omega
      have hlt' : ¬ (j : Int) < (j : Int) := by omega
      have HLOW := Lib.hid (show wr.ownsRow w3.heap.size 9 1 (.slice la j lc) j ((s1.map lowS).map Value.string) from by
        have := hown.out
        rwa [List.take_of_length_le (by rw [HN1.out]; exact Nat.le_refl _)] at this)
      have hzs : sep.size = 1 := HF.out.1
      have hma2 : a.size ≤ 1000 := HMA.out
      have hmb2 : b.size ≤ 1000 := HMB.out
      have hq1 : ¬ 9223372036854775807 < a.size + sep.size := by omega
      have hq2 : ¬ 9223372036854775807 < (a ++ sep).size + b.size := by rw [ByteArray.size_append]; omega
      have cN3 := fun w => names_any (a ++ sep ++ b) w (by rw [ByteArray.size_append, ByteArray.size_append]; omega)
      have HQ := Lib.hid (And.intro hlt hlt')
      clear hown hlt hma2 hmb2 hzs hlt'
      have hlt' : ¬ (j : Int) < (j : Int) := by omega
      go_wp2_with fail
      refine (cN3 _).mono ?_
      rintro e w4 ⟨v3, s3, rfl, ho3, hw3, hl3, hb4⟩
      have hs3 : s3 = s1 ++ s2 := joined_words HF.out.2.1 HF.out.2.2 HW1.out HW2.out hw3
      subst hs3
      obtain ⟨a3, c3, rfl⟩ := own_slice ho3
      have hn3 : (s1 ++ s2).length = j + n2 := by rw [List.length_append, HN1.out, HN2.out]
      have hr3 : RdS w4 w4.heap.size a3 (s1 ++ s2) := RdS.of_own ho3
      rw [hn3]
      have HR3 := Lib.hid hr3
      have HN3 := Lib.hid hn3
      have HLO := Lib.hid (owns_later HLOW.out hb4)
      have hb34 := below_trans HBL.out hb4
      have HE4 := Lib.hid (show Below w4.heap.size w4 (w4.alloc (.cells #[] 9)) from (Below.refl _ _).alloc (Nat.le_refl _) _)
      have HR1c := Lib.hid (HR1b.out.later (hb34.trans (HE4.out.mono hb34.size)) (Nat.le_refl _))
      have HR2c := Lib.hid (HR2.out.later hb34 (Nat.le_refl _))
      have HB34 := Lib.hid hb34
      have own4 := Lib.hid (owns_emptyS (base := w4.heap.size) (heap_alloc_new w4 (.cells #[] 9)) (Nat.le_refl _))
      have hj2 : j ≤ 1000001 := by have := HL1.out; have := HMA.out; omega
      have hn22 : n2 ≤ 1000001 := by have := HL2.out; have := HMB.out; omega
      have hj3 : 0 + j ≤ 1000001 := by omega
      clear ho3 hw3 hl3 hb4 hb34 hr3 hn3 HLOW cN3
      go_wp2_with (first
        | (at_builtin; refine wpList_append_strs rfl _ _ 26 rfl w4.heap.size 9 Tryd.underlying26 TrydinfoStr _ 0 [] rfl own4.out a1 j c1 _ s1 HN1.out rfl HR1c.out HNL1.out (by omega) hj2 (by simp) ?_; intro v5 w5 hown5 hgrow5; have HO5 := Lib.hid hown5; have HB5 := Lib.hid (show Below w4.heap.size w4 w5 from HE4.out.grown hgrow5 (by simp) (fun k e => by cases e; exact Nat.le_refl _)))
        | (at_builtin; refine wpList_append_strs rfl _ _ 26 rfl w4.heap.size 9 Tryd.underlying26 TrydinfoStr _ (0 + j) ([] ++ s1) rfl HO5.out a2 n2 c2 _ s2 HN2.out rfl (HR2c.out.later HB5.out HB34.out.size) HNL2.out hj3 hn22 HB5.out.size ?_; intro v6 w6 hown6 hgrow6; have HO6 := Lib.hid hown6; have HB6 := Lib.hid (show Below w4.heap.size w4 w6 from HB5.out.grown hgrow6 HB5.out.size (fun k e => (HO5.out.lt k e).1)))
        | fail)
      have hO6 : w6.ownsRow w4.heap.size 9 1 v6 (j + n2) ((s1 ++ s2).map Value.string) := by simpa using HO6.out
      obtain ⟨a6, c6, rfl⟩ := own_slice hO6
      have hr6 : RdS w6 w6.heap.size a6 (s1 ++ s2) := RdS.of_own (n := j + n2) (by rw [HN3.out]; exact hO6)
      have hr36 : RdS w6 w6.heap.size a3 (s1 ++ s2) := (HR3.out.later HB6.out (Nat.le_refl _)).mono HB6.out.size
      have cT := texts_same a3 a6 (j + n2) c3 c6 (s1 ++ s2) w6 HN3.out (by omega) hr36 hr6
      have hbw6 := below_trans (below_trans HB3.out HB34.out) HB6.out
      have HBW := Lib.hid hbw6
      have HLO6 := Lib.hid (owns_later HLO.out HB6.out)
      have cLa2 := fun w => cLa w
      clear hO6 hr6 hr36 hbw6 HO5 HO6 HB5 HE4 own4 HR1c HR2c hown5 hown6 hgrow5 hgrow6
      refine cT.mono ?_
      rintro e w7 ⟨rfl, hb7⟩
      have HLO7 := Lib.hid (owns_later HLO6.out hb7)
      have HB7 := Lib.hid (below_trans HBW.out hb7)
      clear hb7 cT
      go_wp2_with fail
      refine (cLa _).mono ?_
      rintro e w8 ⟨rfl, hb8⟩
      have cN4 := fun w => names_any (lowS a) w (by rw [lowS_size]; have := HMA.out; omega)
      have HLO8 := Lib.hid (owns_later HLO7.out hb8)
      have HB8 := Lib.hid (below_trans HB7.out hb8)
      clear hb8
      go_wp2_with fail
      refine (cN4 _).mono ?_
      rintro e w9 ⟨v9, s4, rfl, ho9, hw9, hl9, hb9⟩
      have hs4 : s4 = s1.map lowS := lower_words HW1.out hw9
      subst hs4
      obtain ⟨a9, c9, rfl⟩ := own_slice ho9
      have hr9 : RdS w9 w9.heap.size a9 (s1.map lowS) := RdS.of_own ho9
      have hn9 : (s1.map lowS).length = j := by rw [List.length_map, HN1.out]
      have hrl : RdS w9 w9.heap.size la (s1.map lowS) := RdS.of_own (n := j) (by rw [hn9]; exact owns_later HLO8.out hb9)
      have cT2 := texts_same a9 la j c9 lc (s1.map lowS) w9 hn9 (by omega) hr9 hrl
      rw [hn9]
      have HB9 := Lib.hid (below_trans HB8.out hb9)
      clear ho9 hw9 hl9 hb9 hr9 hrl cN4
      go_wp2_with fail
      refine cT2.mono ?_
      rintro e w10 ⟨rfl, hb10⟩
      go_wp2
      go_ret
      exact ⟨rfl, below_trans HB9.out hb10⟩
end Go.Proofs.YtkpjkeplbjkigaaDoor
