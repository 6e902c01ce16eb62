/- A document copied, by the program: a walk. -/
import Derived.Test.YtfgnepbpfglepaaDo3
namespace Go.Proofs.Ytfgnepbpfglepaa
open Go.RowKit
set_option linter.unusedVariables false
set_option linter.unusedSimpArgs false

theorem setsNd_len {cs : List Value} {o : Nat} {p k : Int} {s nm t : ByteArray} {v4 v5 : Value} : (setsNd cs o p k s nm v4 v5 t).length = cs.length := by
  unfold setsNd; simp only [List.length_set]
theorem setsNd_other {cs : List Value} {o j : Nat} {p k : Int} {s nm t : ByteArray} {v4 v5 : Value} (h : j < o ∨ o + 6 < j) : (setsNd cs o p k s nm v4 v5 t)[j]? = cs[j]? := by
  unfold setsNd
  rw [List.getElem?_set_ne (by omega), List.getElem?_set_ne (by omega), List.getElem?_set_ne (by omega), List.getElem?_set_ne (by omega), List.getElem?_set_ne (by omega), List.getElem?_set_ne (by omega), List.getElem?_set_ne (by omega)]
theorem setsNd_self {cs : List Value} {o : Nat} {p k : Int} {s nm t : ByteArray} {v4 v5 : Value} (h : o + 6 < cs.length) :
    (setsNd cs o p k s nm v4 v5 t)[o]? = some (.int .i64 p) ∧ (setsNd cs o p k s nm v4 v5 t)[o + 1]? = some (.int .i64 k) ∧ (setsNd cs o p k s nm v4 v5 t)[o + 2]? = some (.string s) ∧ (setsNd cs o p k s nm v4 v5 t)[o + 3]? = some (.string nm) ∧
    (setsNd cs o p k s nm v4 v5 t)[o + 4]? = some v4 ∧ (setsNd cs o p k s nm v4 v5 t)[o + 5]? = some v5 ∧ (setsNd cs o p k s nm v4 v5 t)[o + 6]? = some (.string t) := by
  unfold setsNd
  refine ⟨?_, ?_, ?_, ?_, ?_, ?_, ?_⟩
  · rw [List.getElem?_set_ne (by omega), List.getElem?_set_ne (by omega), List.getElem?_set_ne (by omega), List.getElem?_set_ne (by omega), List.getElem?_set_ne (by omega), List.getElem?_set_ne (by omega), List.getElem?_set_self (by omega)]
  · rw [List.getElem?_set_ne (by omega), List.getElem?_set_ne (by omega), List.getElem?_set_ne (by omega), List.getElem?_set_ne (by omega), List.getElem?_set_ne (by omega), List.getElem?_set_self (by simp only [List.length_set]; omega)]
  · rw [List.getElem?_set_ne (by omega), List.getElem?_set_ne (by omega), List.getElem?_set_ne (by omega), List.getElem?_set_ne (by omega), List.getElem?_set_self (by simp only [List.length_set]; omega)]
  · rw [List.getElem?_set_ne (by omega), List.getElem?_set_ne (by omega), List.getElem?_set_ne (by omega), List.getElem?_set_self (by simp only [List.length_set]; omega)]
  · rw [List.getElem?_set_ne (by omega), List.getElem?_set_ne (by omega), List.getElem?_set_self (by simp only [List.length_set]; omega)]
  · rw [List.getElem?_set_ne (by omega), List.getElem?_set_self (by simp only [List.length_set]; omega)]
  · rw [List.getElem?_set_self (by simp only [List.length_set]; omega)]

/-- A document copied: it reads the same, in new memory. -/
def CopyD (xs : List Nd) (n : Nat) (w : World) (e : Ending) (w' : World) : Prop := ∃ g, e = .returned (.slice (some ⟨g, 0, none⟩) n n) ∧ w.heap.size ≤ g ∧ g < w'.heap.size ∧ RdN (fun b => w.heap.size ≤ b ∧ b < w'.heap.size) w' (some ⟨g, 0, none⟩) n n xs ∧ Below w.heap.size w w'

set_option maxRecDepth 100000 in
set_option maxHeartbeats 4000000 in
theorem copiedN_any (xs : List Nd) (a : Option Addr) (n c : Nat) (w : World) (hx : RdN (· < w.heap.size) w a n c xs) (hn : n ≤ 1000000) (hsm : ∀ x ∈ xs, x.attrs.length ≤ 1000000 ∧ x.states.length ≤ 1000000) :
    Calls Try.prog 34 #[.slice a n c, .func (.func 35) #[] #[]] w (CopyD xs n w) := by
  have hmk := make_any 22 44 _ 7 112 Try.underlying22 TryinfoNode n (by omega) (by omega)
  obtain ⟨cs0, hl0, hB0⟩ := made_blk w (Value.agg #[.int .i64 0, .int .i64 0, .string ⟨#[]⟩, .string ⟨#[]⟩, .slice none 0 0, .slice none 0 0, .string ⟨#[]⟩]).cells (n * 7) 44
  have hb0 := (Below.refl w.heap.size w).alloc (Nat.le_refl _) (.cells (madeCells (Value.agg #[.int .i64 0, .int .i64 0, .string ⟨#[]⟩, .string ⟨#[]⟩, .slice none 0 0, .slice none 0 0, .string ⟨#[]⟩]).cells (n * 7)) 44)
  have hm : n ≤ 9223372036854775807 := by omega
  have HN := Lib.hid hx.1
  have HX := Lib.hid hx
  have HM := Lib.hid hmk
  have HL0 := Lib.hid hl0
  have HB0 := Lib.hid hB0
  have Hb0 := Lib.hid hb0
  have HSM := Lib.hid hsm
  clear hx hmk hl0 hB0 hb0 hsm
  have hmk := HM.out w
  go_enter Try.func34, Try.ntmps34
  go_wp2_with fail
  clear hmk
  go_loopw [13] (fun i wr => ∃ (k : Nat) (cs : List Value), k ≤ n ∧ i = .int .i64 k ∧ Hid (Blk wr w.heap.size cs 44) ∧ Hid (cs.length = n * 7) ∧ Hid (∀ (i : Nat) (x : Nd), i < k → xs[i]? = some x → NdC (fun b => w.heap.size < b ∧ b < wr.heap.size) wr cs (i * 7) x) ∧ Hid (Below w.heap.size w wr)) (fun i _ => n - (intOf i).toNat)
  case atStart => exact ⟨0, cs0, Nat.zero_le _, rfl, Lib.hid (by have := HB0.out; exact this), Lib.hid (by rw [HL0.out]), Lib.hid (fun i x h => by omega), Lib.hid (by have := Hb0.out; exact this)⟩
  case round =>
    obtain ⟨k, cs, hk, rfl, HB, HL, HC, HW⟩ := hrel
    by_cases hlt : k < n
    · obtain ⟨x, hxk⟩ : ∃ x, xs[k]? = some x := ⟨_, List.getElem?_eq_getElem (by rw [← HN.out]; exact hlt)⟩
      obtain ⟨b, off, rfl, hb, x0, x1, x2, x3, ⟨a1, n1, c1, x4, hA1⟩, ⟨a2, n2, c2, x5, hS1⟩, x6, hz0, hz1, hz2⟩ := HX.out.at k x hxk
      have hsx := HSM.out x (List.mem_of_getElem? hxk)
      have hn1 : n1 ≤ 1000000 := by rw [hA1.1]; exact hsx.1
      have hn2 : n2 ≤ 1000000 := by rw [hS1.1]; exact hsx.2
      rw [← cell_same (HW.out.block b hb)] at x0 x1 x2 x3 x4 x5 x6
      have hbX := HW.out.alloc HW.out.size (.cells [.int .i64 x.par, .int .i64 x.kind, .string x.space, .string x.name, .slice a1 n1 c1, .slice a2 n2 c2, .string x.text].toArray 44)
      have B1 := HB.out.alloc_old (.cells [.int .i64 x.par, .int .i64 x.kind, .string x.space, .string x.name, .slice a1 n1 c1, .slice a2 n2 c2, .string x.text].toArray 44)
      have fC := copyNode_any x.par x.kind x.space x.name x.text x.attrs x.states a1 a2 n1 n2 c1 c2 (wr.alloc (.cells [.int .i64 x.par, .int .i64 x.kind, .string x.space, .string x.name, .slice a1 n1 c1, .slice a2 n2 c2, .string x.text].toArray 44)) (hA1.move (fun bl h => ⟨Nat.lt_of_lt_of_le h hbX.size, hbX.block bl h⟩)) (hS1.move (fun bl h => ⟨Nat.lt_of_lt_of_le h hbX.size, hbX.block bl h⟩)) hz0 hz1 hz2 hn1 hn2
      have hkI : (0 : Int) ≤ (k : Int) := by omega
      have hkI2 : (k : Int) < (n : Int) := by omega
      have hgt : ∀ f, f < 7 → ∃ o, cs[k * 7 + f]? = some o := fun f hf => ⟨_, List.getElem?_eq_getElem (by rw [HL.out]; omega)⟩
      have HGT := Lib.hid hgt
      have HXK := Lib.hid hxk
      have HBX := Lib.hid hbX
      have HB1 := Lib.hid B1
      have HZ := Lib.hid (And.intro hz0 (And.intro hz1 hz2))
      clear hA1 hS1 hxk hbX B1 hgt hsx hz0 hz1 hz2
      go_wp2_with (go_at_call 35; (with_reducible refine fC.mono ?_); rintro e w2 ⟨gA, gS, rfl, hrA, hrS, hb2⟩; have B2 := HB1.out.later hb2 HB1.out.lt; obtain ⟨o0, ho0⟩ := HGT.out 0 (by omega); obtain ⟨o1, ho1⟩ := HGT.out 1 (by omega); obtain ⟨o2, ho2⟩ := HGT.out 2 (by omega); obtain ⟨o3, ho3⟩ := HGT.out 3 (by omega); obtain ⟨o4, ho4⟩ := HGT.out 4 (by omega); obtain ⟨o5, ho5⟩ := HGT.out 5 (by omega); obtain ⟨o6, ho6⟩ := HGT.out 6 (by omega); have d0 := B2.cell (k * 7) _ ho0; have d1 := B2.cell (k * 7 + 1) _ ho1; have d2 := B2.cell (k * 7 + 2) _ ho2; have d3 := B2.cell (k * 7 + 3) _ ho3; have d4 := B2.cell (k * 7 + 4) _ ho4; have d5 := B2.cell (k * 7 + 5) _ ho5; have d6 := B2.cell (k * 7 + 6) _ ho6; have g0 := B2.frozen (k * 7); have g1 := B2.frozen (k * 7 + 1); have g2 := B2.frozen (k * 7 + 2); have g3 := B2.frozen (k * 7 + 3); have g4 := B2.frozen (k * 7 + 4); have g5 := B2.frozen (k * 7 + 5); have g6 := B2.frozen (k * 7 + 6); have HRA := Lib.hid hrA; have HRS := Lib.hid hrS; clear ho0 ho1 ho2 ho3 ho4 ho5 ho6 hrA hrS)
      have B3 := Lib.hid (setNd_blk (o := k * 7) (p := x.par) (k := x.kind) (s := x.space) (nm := x.name) (t := x.text) (v4 := .slice (some ⟨gA, 0, none⟩) n1 n1) (v5 := .slice (some ⟨gS, 0, none⟩) n2 n2) B2)
      have Hb3 := Lib.hid (setNd_below (o := k * 7) (p := x.par) (k := x.kind) (s := x.space) (nm := x.name) (t := x.text) (v4 := .slice (some ⟨gA, 0, none⟩) n1 n1) (v5 := .slice (some ⟨gS, 0, none⟩) n2 n2) (HBX.out.trans (hb2.mono HBX.out.size)) (Nat.le_refl w.heap.size))
      have Hb2 := Lib.hid hb2
      clear hb2 B2 d0 d1 d2 d3 d4 d5 d6 g0 g1 g2 g3 g4 g5 g6
      go_wp2
      go_roundw
      case rel =>
        change ∃ (k' : Nat) (cs : List Value), _ ∧ _ ∧ Hid (Blk (setNd w2 w.heap.size (k * 7) x.par x.kind x.space x.name (.slice (some ⟨gA, 0, none⟩) n1 n1) (.slice (some ⟨gS, 0, none⟩) n2 n2) x.text) _ _ _) ∧ _ ∧ Hid (∀ (i : Nat) (y : Nd), i < k' → xs[i]? = some y → NdC (fun b => w.heap.size < b ∧ b < (setNd w2 w.heap.size (k * 7) x.par x.kind x.space x.name (.slice (some ⟨gA, 0, none⟩) n1 n1) (.slice (some ⟨gS, 0, none⟩) n2 n2) x.text).heap.size) (setNd w2 w.heap.size (k * 7) x.par x.kind x.space x.name (.slice (some ⟨gA, 0, none⟩) n1 n1) (.slice (some ⟨gS, 0, none⟩) n2 n2) x.text) cs (i * 7) y) ∧ Hid (Below _ _ (setNd w2 w.heap.size (k * 7) x.par x.kind x.space x.name (.slice (some ⟨gA, 0, none⟩) n1 n1) (.slice (some ⟨gS, 0, none⟩) n2 n2) x.text))
        refine ⟨k + 1, _, by omega, by go_num, B3, Lib.hid (by rw [setsNd_len]; exact HL.out), Lib.hid (fun i y hi hy => ?_), Hb3⟩
        have hl := HL.out
        have hwr := HW.out.size
        have hgl := HB.out.lt
        have h2 := Hb2.out.size
        have h2a : wr.heap.size + 1 ≤ w2.heap.size := by simpa using h2
        by_cases he : i = k
        · subst he
          rw [HXK.out] at hy
          cases hy
          obtain ⟨q0, q1, q2, q3, q4, q5, q6⟩ := setsNd_self (cs := cs) (o := i * 7) (p := x.par) (k := x.kind) (s := x.space) (nm := x.name) (t := x.text) (v4 := .slice (some ⟨gA, 0, none⟩) n1 n1) (v5 := .slice (some ⟨gS, 0, none⟩) n2 n2) (by omega)
          exact ⟨q0, q1, q2, q3, ⟨_, _, _, q4, HRA.out.move (fun b hb => ⟨⟨by have := hb.1; simp at this; omega, by rw [setNd_size]; exact hb.2⟩, setNd_old (by have := hb.1; simp at this; omega)⟩)⟩, ⟨_, _, _, q5, HRS.out.move (fun b hb => ⟨⟨by have := hb.1; simp at this; omega, by rw [setNd_size]; exact hb.2⟩, setNd_old (by have := hb.1; simp at this; omega)⟩)⟩, q6, HZ.out⟩
        · have hN := HC.out i y (by omega) hy
          have hN2 : NdC (fun b => w.heap.size < b ∧ b < (setNd w2 w.heap.size (k * 7) x.par x.kind x.space x.name (.slice (some ⟨gA, 0, none⟩) n1 n1) (.slice (some ⟨gS, 0, none⟩) n2 n2) x.text).heap.size) (setNd w2 w.heap.size (k * 7) x.par x.kind x.space x.name (.slice (some ⟨gA, 0, none⟩) n1 n1) (.slice (some ⟨gS, 0, none⟩) n2 n2) x.text) cs (i * 7) y :=
            hN.move (fun b hb => ⟨⟨hb.1, by rw [setNd_size]; have := hb.2; omega⟩, by
              rw [setNd_old (by have := hb.1; omega), Hb2.out.block b (by have := hb.2; simp; omega), Below.heap_alloc wr _ b hb.2]⟩)
          obtain ⟨p0, p1, p2, p3, ⟨e1, m1, d1, p4, p4'⟩, ⟨e2, m2, d2, p5, p5'⟩, p6, p7⟩ := hN2
          have hot : ∀ f, f < 7 → (setsNd cs (k * 7) x.par x.kind x.space x.name (.slice (some ⟨gA, 0, none⟩) n1 n1) (.slice (some ⟨gS, 0, none⟩) n2 n2) x.text)[i * 7 + f]? = cs[i * 7 + f]? := fun f hf => setsNd_other (by omega)
          exact ⟨(hot 0 (by omega)).trans p0, (hot 1 (by omega)).trans p1, (hot 2 (by omega)).trans p2, (hot 3 (by omega)).trans p3, ⟨e1, m1, d1, (hot 4 (by omega)).trans p4, p4'⟩, ⟨e2, m2, d2, (hot 5 (by omega)).trans p5, p5'⟩, (hot 6 (by omega)).trans p6, p7⟩
      case measure => simp [intOf]; omega
    · have hkI : ¬ (k : Int) < (n : Int) := by omega
      obtain rfl : k = n := by omega
      go_wp2
      go_ret
      refine ⟨w.heap.size, rfl, Nat.le_refl _, HB.out.lt, ⟨HN.out, Nat.le_refl _, ⟨by unfold maxLen; omega, by omega, fun h => by cases h⟩, .inr ⟨w.heap.size, 0, rfl, ⟨Nat.le_refl _, HB.out.lt⟩, fun i x hxi => ?_⟩⟩, HW.out⟩
      have hi : i < k := by rw [HN.out]; exact (List.getElem?_eq_some_iff.1 hxi).1
      rw [Nat.zero_add]
      exact ((HC.out i x hi hxi).move (fun b hb => ⟨⟨by have := hb.1; omega, hb.2⟩, rfl⟩)).at HB.out
end Go.Proofs.Ytfgnepbpfglepaa
