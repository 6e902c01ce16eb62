/- Whether a text is one of the parts between blanks: the walk of hasWord. -/
import Derived.Test.YtkpjkeplbjkigaaDoorVh
namespace Go.Proofs.YtkpjkeplbjkigaaDoor
open Go.RowKit Go.Shelf

/-- The decoder's two tables lie where they lay. -/
theorem tabs_later {B : Nat} {A C : World} (hb : Below B A C) (h2 : 2 < B) (h3 : 3 < B) (h : Lib.Utf8Tabs 2 3 A) : Lib.Utf8Tabs 2 3 C :=
  ⟨fun c hc => (hb.cell (p := ⟨2, c, none⟩) h2).trans (h.1 c hc),
   fun i hi => ⟨(hb.cell (p := ⟨3, 2 * i, none⟩) h3).trans (h.2 i hi).1, (hb.cell (p := ⟨3, 2 * i + 1, none⟩) h3).trans (h.2 i hi).2⟩⟩
theorem tabs_lt {w : World} (h : Lib.Utf8Tabs 2 3 w) : 2 < w.heap.size ∧ 3 < w.heap.size :=
  ⟨World.block_lt_of_cell? w _ (h.1 0 (by omega)), World.block_lt_of_cell? w _ (h.2 0 (by omega)).1⟩

theorem cell_box {W : World} {B : Nat} {v : Value} {t : TypeId} (h : W.heap[B]? = some (.cells #[v] t (0, 0))) : W.cell? ⟨B, 0, none⟩ = some v ∧ W.frozen? ⟨B, 0, none⟩ = false := by
  constructor <;> simp [World.cell?, World.frozen?, h]
theorem cell_new1 (W : World) (v : Value) (t : TypeId) : (W.alloc (.cells #[v] t)).cell? ⟨W.heap.size, 0, none⟩ = some v ∧ (W.alloc (.cells #[v] t)).frozen? ⟨W.heap.size, 0, none⟩ = false :=
  cell_box (World.alloc_heap_new W _)
theorem cell_old1 {W : World} {a : Addr} {v : Value} (o : Obj) (h : W.cell? a = some v) : (W.alloc o).cell? a = some v := cell_kept h (World.grownBy_alloc W o none) (fun r e => by cases e)
theorem frozen_old1 {W : World} {a : Addr} {v : Value} (o : Obj) (h : W.cell? a = some v) (hf : W.frozen? a = false) : (W.alloc o).frozen? a = false := (frozen_kept h (World.grownBy_alloc W o none) (fun r e => by cases e)).trans hf

attribute [local go_sem] Oper.semAt_some

set_option maxRecDepth 100000 in
set_option maxHeartbeats 1000000 in
theorem fseq_in (n : Nat) (s : ByteArray) (w : World) :
    CallsIn Fence.wide n Tryd.prog 66 #[.string s, .func (.func 67) #[] #[]] w fun e w' => e = .returned (.func (.func 80) #[] #[.pointer (some ⟨w.heap.size, 0, none⟩), .pointer (some ⟨w.heap.size + 1, 0, none⟩)]) ∧
      w' = (w.alloc (.cells #[.string s] 9)).alloc (.cells #[.func (.func 67) #[] #[]] 46) := by
  refine callsIn_of_wp Tryd.func66 rfl trivial ?_ rfl
  simp only [Tryd.ntmps66, List.size_toArray, List.length_cons, List.length_nil, Nat.reduceAdd, Nat.reduceSub, Array.replicate_succ, Array.replicate_zero, List.push_toArray, List.append_toArray, List.nil_append, List.cons_append]
  gi_wp2
  go_ret
  exact ⟨rfl, rfl⟩

/-- The iterator's value hands out the parts between blanks, in their order. -/
theorem seq_stops (n Bs Bf n0 : Nat) (s : ByteArray) (hn : 1 ≤ n) (hs : s.size ≤ 1000000) (w : World) (hsz : Bs < n0 ∧ Bf < n0 ∧ n0 ≤ w.heap.size)
    (hBs : w.cell? ⟨Bs, 0, none⟩ = some (.string s)) (hBf : w.cell? ⟨Bf, 0, none⟩ = some (.func (.func 67) #[] #[])) (hT : Lib.Utf8Tabs 2 3 w)
    (h2 : 2 < n0) (h3 : 3 < n0) :
    SeqStopsK Fence.wide n Tryd.prog 80 #[.pointer (some ⟨Bs, 0, none⟩), .pointer (some ⟨Bf, 0, none⟩)] (fun x : ByteArray => #[Value.string x]) (Below n0) (fun ys => ys.map strB = words (strB s)) (fun pre => ∃ q, pre.map strB ++ q = words (strB s)) (words (strB s)).length w :=
  fun l J Jx W hW hJ _ hY h0 => by
    obtain ⟨h4, h5, h6⟩ := hsz
    have hz := hW.size
    exact seq1_in n l Bs Bf n0 s hn hs J Jx W ⟨h4, h5, by omega, h2, h3⟩ ((hW.cell (p := ⟨Bs, 0, none⟩) (Nat.lt_of_lt_of_le h4 h6)).trans hBs) ((hW.cell (p := ⟨Bf, 0, none⟩) (Nat.lt_of_lt_of_le h5 h6)).trans hBf)
      (tabs_later hW (Nat.lt_of_lt_of_le h2 h6) (Nat.lt_of_lt_of_le h3 h6) hT) (fun A B hb h => tabs_later hb h2 h3 h) hJ hY h0

set_option maxRecDepth 100000 in
set_option maxHeartbeats 4000000 in
theorem hasWord_any (v t : ByteArray) (w : World) (hs : v.size ≤ 1000000) (hT : Lib.Utf8Tabs 2 3 w) :
    Calls Tryd.prog 49 #[.string v, .string t] w (Told (.bool (decide (strB t ∈ words (strB v)))) w) := by
  obtain ⟨ht2, ht3⟩ := tabs_lt hT
  have hro : Fence.wide.round = none := rfl
  refine (callsIn_wide (n := 3)).1 ?_
  refine callsIn_of_wp_marks Tryd.func49 rfl trivial ?_ hro
  simp only [Tryd.ntmps49, List.size_toArray, List.length_cons, List.length_nil, Nat.reduceAdd, Nat.reduceSub, Array.replicate_succ, Array.replicate_zero, List.push_toArray, List.append_toArray, List.nil_append, List.cons_append]
  have HT := Lib.hid hT
  clear hT
  gi_wp2
  refine ⟨trivial, ?_⟩
  refine (fseq_in _ _ _).mono ?_
  rintro e w' ⟨rfl, rfl⟩
  have c0 := cell_new1 w (.string t) 9
  have c1 := cell_new1 (w.alloc (.cells #[.string t] 9)) (.bool false) 4
  have c2 := cell_new1 ((w.alloc (.cells #[.string t] 9)).alloc (.cells #[.bool false] 4)) (.string v) 9
  have c3 := cell_new1 (((w.alloc (.cells #[.string t] 9)).alloc (.cells #[.bool false] 4)).alloc (.cells #[.string v] 9)) (.func (.func 67) #[] #[]) 46
  simp only [World.size_alloc] at c1 c2 c3
  have d0 := cell_old1 (.cells #[.func (.func 67) #[] #[]] 46) (cell_old1 (.cells #[.string v] 9) (cell_old1 (.cells #[.bool false] 4) c0.1))
  have d1 := cell_old1 (.cells #[.func (.func 67) #[] #[]] 46) (cell_old1 (.cells #[.string v] 9) c1.1)
  have f1 := frozen_old1 (.cells #[.func (.func 67) #[] #[]] 46) (cell_old1 (.cells #[.string v] 9) c1.1) (frozen_old1 (.cells #[.string v] 9) c1.1 c1.2)
  have d2 := cell_old1 (.cells #[.func (.func 67) #[] #[]] 46) c2.1
  have d3 := c3.1
  have hB0 : Below w.heap.size w ((((w.alloc (.cells #[.string t] 9)).alloc (.cells #[.bool false] 4)).alloc (.cells #[.string v] 9)).alloc (.cells #[.func (.func 67) #[] #[]] 46)) :=
    ((((Below.refl _ w).alloc (Nat.le_refl _) _).alloc (by simp) _).alloc (by simp; omega) _).alloc (by simp; omega) _
  have hz0 : ((((w.alloc (.cells #[.string t] 9)).alloc (.cells #[.bool false] 4)).alloc (.cells #[.string v] 9)).alloc (.cells #[.func (.func 67) #[] #[]] 46)).heap.size = w.heap.size + 4 := by simp
  clear c0 c1 c2 c3
  gi_wp2
  generalize hW0 : ((((w.alloc (.cells #[.string t] 9)).alloc (.cells #[.bool false] 4)).alloc (.cells #[.string v] 9)).alloc (.cells #[.func (.func 67) #[] #[]] 46)) = W0 at *
  have hT0 := tabs_later hB0 ht2 ht3 HT.out
  have hseq := seq_stops (3 - 1) (w.heap.size + 1 + 1) (w.heap.size + 1 + 1 + 1) (w.heap.size + 4) v (by omega) hs W0 ⟨by omega, by omega, by omega⟩ d2 d3 hT0 (by omega) (by omega)
  refine wpIn_rangeFunc_ownF hro (by omega) (gf := 80) (lb := #[.pointer (some ⟨w.heap.size + 1 + 1, 0, none⟩), .pointer (some ⟨w.heap.size + 1 + 1 + 1, 0, none⟩)]) rfl trivial (enters_of Tryd.func80 (by kernel_rfl) rfl)
    hseq belowK_t (belowK_b (by omega)) (Below.refl _ _) (fun _ => rfl)
    (fun pre W => ((∀ y ∈ pre, y ≠ t) ∧ W.cell? ⟨w.heap.size, 0, none⟩ = some (.string t) ∧ W.cell? ⟨w.heap.size + 1, 0, none⟩ = some (.bool false) ∧ W.frozen? ⟨w.heap.size + 1, 0, none⟩ = false) ∧ Below w.heap.size w W)
    (fun c pre W => (c = .ret ∧ t ∈ pre ∧ W.cell? ⟨w.heap.size + 1, 0, none⟩ = some (.bool true)) ∧ Below w.heap.size w W)
    (OwnFrom.and (Own.from (fun s A B row hs hg hr => ⟨hs.1, cell_kept hs.2.1 hg hr, cell_kept hs.2.2.1 hg hr, (frozen_kept hs.2.2.1 hg hr).trans hs.2.2.2⟩) _) (ownFrom_below (Nat.le_refl _) (by omega)))
    (fun c => OwnFrom.and (Own.from (fun s A B row hs hg hr => ⟨hs.1, hs.2.1, cell_kept hs.2.2 hg hr⟩) _) (ownFrom_below (Nat.le_refl _) (by omega)))
    ⟨⟨by simp, d0, d1, f1⟩, hB0⟩
    (fun x => { tmps := #[.string v, .string t, undef, .pointer (some ⟨w.heap.size, 0, none⟩), .pointer (some ⟨w.heap.size + 1, 0, none⟩), .string x, .string v, .func (.func 80) #[] #[.pointer (some ⟨w.heap.size + 1 + 1, 0, none⟩), .pointer (some ⟨w.heap.size + 1 + 1 + 1, 0, none⟩)], .string x, undef, undef, undef], defers := [] }) ?assign ?body ?done ?stop
  case assign =>
    intro l x W K hK
    gi_wp2
    exact hK
  case body =>
    rintro l pre x W ⟨⟨hp, hcw, hcr, hfr⟩, hB⟩ _
    have HP := Lib.hid hp
    clear hp HT hT0 hseq d0 d1 d2 d3 f1
    by_cases hx : x = t
    · subst hx
      gi_wp2
      exact ⟨KeepsOthers.setCell _ _ _, ⟨rfl, List.mem_append.2 (.inr (by simp)), World.cell?_setCell_same' _ _ _ (by rw [hcr]; rfl)⟩, hB.setCell (p := ⟨w.heap.size + 1, 0, none⟩) (by simp) _⟩
    · have n1 : (x.toList == t.toList) = false := by
        rw [beq_eq_false_iff_ne]
        intro e
        rw [ByteArray.toList_eq, ByteArray.toList_eq] at e
        exact hx (strB_inj e)
      gi_wp2
      exact ⟨KeepsOthers.refl _, Below.refl _ _, ⟨fun y hy => (List.mem_append.1 hy).elim (HP.out y) (fun e e' => by simp at e; subst e; exact hx e'), hcw, hcr, hfr⟩, hB⟩
  case done =>
    rintro D ys W hD hys ⟨⟨hne, _, hcr, hfr⟩, hB⟩ hK
    have hno : decide (strB t ∈ words (strB v)) = false := decide_eq_false (fun h => by
      rw [← hys, List.mem_map] at h
      obtain ⟨y, hy, he⟩ := h
      exact hne y hy (strB_inj he))
    have HNO := Lib.hid hno
    have HH := Lib.hid hys
    clear hys hne HT hT0 hseq d0 d1 d2 d3 f1 hno
    gi_wp2
    have hK' := (KeepsOthers.setCell W ⟨w.heap.size + 1, 0, none⟩ (.bool false)).same D _ hK rfl
    refine ⟨by simp, .inl ⟨_, _, rfl, run_takeDeferred hK', ?_⟩⟩
    have hc5 := cell_kept (World.cell?_setCell_same' W ⟨w.heap.size + 1, 0, none⟩ (.bool false) (by rw [hcr]; rfl)) (grownBy_putObj' _ D (.deferred none)) (fun r e => by cases e; exact ⟨_, hK', rfl⟩)
    refine ⟨.bool false, ?_, by rw [HNO.out], (hB.setCell (p := ⟨w.heap.size + 1, 0, none⟩) (by simp) _).trans (belowK_b (w := w) (Nat.le_refl _) _ D _ _ (by omega) hK' rfl rfl)⟩
    simp [results, Tryd.f49, go_sem, hc5]
  case stop =>
    rintro D c pre W hD ⟨q, hq⟩ ⟨⟨rfl, hin, hcr⟩, hB⟩ hK
    have hyes : decide (strB t ∈ words (strB v)) = true := decide_eq_true (by
      rw [← hq]
      exact List.mem_append.2 (.inl (List.mem_map_of_mem hin)))
    have HYES := Lib.hid hyes
    have HH := Lib.hid hq
    clear hq hin HT hT0 hseq d0 d1 d2 d3 f1 hyes
    gi_wp2
    refine ⟨by simp, .inl ⟨_, _, rfl, run_takeDeferred hK, ?_⟩⟩
    have hc5 := cell_kept hcr (grownBy_putObj' _ D (.deferred none)) (fun r e => by cases e; exact ⟨_, hK, rfl⟩)
    refine ⟨.bool true, ?_, by rw [HYES.out], hB.trans (belowK_b (w := w) (Nat.le_refl _) W D _ _ (by omega) hK rfl rfl)⟩
    simp [results, Tryd.f49, go_sem, hc5]
end Go.Proofs.YtkpjkeplbjkigaaDoor
