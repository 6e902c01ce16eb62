/- Texts of mine in one: Fp8. -/
import Derived.Test.YtcfhggdiccilaaaGreatQ32
namespace Go.Proofs.YtcfhggdiccilaaaGreat
section
open Go.RowKit
set_option linter.unusedVariables false
set_option linter.unusedSimpArgs false
set_option maxRecDepth 100000 in
set_option maxHeartbeats 4000000 in
theorem pterm_1 {d p base : Nat} {N : NmV} {nm : Nm} (hL : ListC d p base N nm) (ns : Int) (pre name : ByteArray) (op : Int) (text : ByteArray) (fold : Bool) (mark fa fb : Int) (x : Lx d) {w : World} {st : PenS} {V : PV} {X : List (Option Nat)} {a : Option Addr} {n c : Nat} (h : PenAt w p base N nm st V X) (hx : RdL (· < p) d w a n c x) (ht : st.tot + 4 + cntL d x ≤ 1000000) :
    Calls Tryz.prog 62 #[.pointer (some ⟨p, 0, none⟩), sval ⟨1, ns, pre, name, op, text, fold, mark, fa, fb⟩ a n c] w (TermP 5 p base N nm X (penTerm (penL nm d) nm st (⟨1, ns, pre, name, op, text, fold, mark, fa, fb⟩, x)) V w) := by
  have hb0 := (Below.refl w.heap.size w).alloc (Nat.le_refl _) (.cells #[.int .i64 1, .int .i64 ns, .string pre, .string name, .int .i64 op, .string text, .bool fold, .int .i64 mark, .int .i64 fa, .int .i64 fb, .slice a n c] 118)
  have hb1 := hb0.alloc hb0.size (.cells #[.int .i64 0, .int .i64 0, .slice none 0 0] 110)
  have HB1 := Lib.hid hb1
  have HP1 := Lib.hid (h.fresh hb1 (Nat.le_succ _) (by simp))
  have DS := Lib.hid (show Blk ((w.alloc (.cells #[.int .i64 1, .int .i64 ns, .string pre, .string name, .int .i64 op, .string text, .bool fold, .int .i64 mark, .int .i64 fa, .int .i64 fb, .slice a n c] 118)).alloc (.cells #[.int .i64 0, .int .i64 0, .slice none 0 0] 110)) w.heap.size [.int .i64 1, .int .i64 ns, .string pre, .string name, .int .i64 op, .string text, .bool fold, .int .i64 mark, .int .i64 fa, .int .i64 fb, .slice a n c] 118 from (Blk.alloc [.int .i64 1, .int .i64 ns, .string pre, .string name, .int .i64 op, .string text, .bool fold, .int .i64 mark, .int .i64 fa, .int .i64 fb, .slice a n c] _).alloc_old _)
  have D1 := Lib.hid (show Blk ((w.alloc (.cells #[.int .i64 1, .int .i64 ns, .string pre, .string name, .int .i64 op, .string text, .bool fold, .int .i64 mark, .int .i64 fa, .int .i64 fb, .slice a n c] 118)).alloc (.cells #[.int .i64 0, .int .i64 0, .slice none 0 0] 110)) (w.heap.size + 1) [.int .i64 0, .int .i64 0, .slice none 0 0] 110 from by
    have hh : Blk ((w.alloc (.cells #[.int .i64 1, .int .i64 ns, .string pre, .string name, .int .i64 op, .string text, .bool fold, .int .i64 mark, .int .i64 fa, .int .i64 fb, .slice a n c] 118)).alloc (.cells #[.int .i64 0, .int .i64 0, .slice none 0 0] 110)) (w.alloc (.cells #[.int .i64 1, .int .i64 ns, .string pre, .string name, .int .i64 op, .string text, .bool fold, .int .i64 mark, .int .i64 fa, .int .i64 fb, .slice a n c] 118)).heap.size [.int .i64 0, .int .i64 0, .slice none 0 0] 110 := Blk.alloc [.int .i64 0, .int .i64 0, .slice none 0 0] _
    rwa [show (w.alloc (.cells #[.int .i64 1, .int .i64 ns, .string pre, .string name, .int .i64 op, .string text, .bool fold, .int .i64 mark, .int .i64 fa, .int .i64 fb, .slice a n c] 118)).heap.size = w.heap.size + 1 from by simp] at hh)
  have HX1 := Lib.hid (RdL.move (w' := (w.alloc (.cells #[.int .i64 1, .int .i64 ns, .string pre, .string name, .int .i64 op, .string text, .bool fold, .int .i64 mark, .int .i64 fa, .int .i64 fb, .slice a n c] 118)).alloc (.cells #[.int .i64 0, .int .i64 0, .slice none 0 0] 110)) (fun b hb => ⟨hb, hb1.block b (Nat.lt_trans hb h.blk.lt)⟩) hx)
  have s0 := DS.out.cell 0 _ rfl
  have s1 := DS.out.cell 1 _ rfl
  have s2 := DS.out.cell 2 _ rfl
  have s3 := DS.out.cell 3 _ rfl
  have s4 := DS.out.cell 4 _ rfl
  have s5 := DS.out.cell 5 _ rfl
  have s6 := DS.out.cell 6 _ rfl
  have s7 := DS.out.cell 7 _ rfl
  have s8 := DS.out.cell 8 _ rfl
  have s9 := DS.out.cell 9 _ rfl
  have s10 := DS.out.cell 10 _ rfl
  have HH := Lib.hid h
  have HTT := Lib.hid ht
  have HL := Lib.hid hL
  unfold sval
  dsimp only
  have fE := pelem_any (f := 5) HP1.out name ns pre (by omega)
  rw [show penTerm (penL nm d) nm st (⟨1, ns, pre, name, op, text, fold, mark, fa, fb⟩, x) = penElem nm st name ns pre from rfl]
  generalize penElem nm st name ns pre = r at *
  clear h hx ht hb0 hb1 hL
  go_enter Tryz.func62, Tryz.ntmps62
  go_wp2_with (go_at_call 93; (with_reducible refine fE.mono ?_); rintro e w2 ⟨V2, a2, n2, c2, rfl, hT2, hP2, hG2⟩; have HT2 := Lib.hid hT2; have HP2 := Lib.hid hP2; have HG2 := Lib.hid hG2; have D2 := Lib.hid (Blk.pg HP1.out (by simp) hG2 D1.out); have t0 := D2.out.cell 0 _ rfl; have t1 := D2.out.cell 1 _ rfl; have t2 := D2.out.cell 2 _ rfl; have g0 := D2.out.frozen 0; have g1 := D2.out.frozen 1; have g2 := D2.out.frozen 2; clear hT2 hP2 hG2)
  have F := setAll_blkE [.int .i64 r.1.kind, .int .i64 r.1.num, .slice a2 n2 c2] 0 _ _ D2.out
  have r0 := F.cell 0 _ rfl
  have r1 := F.cell 1 _ rfl
  have r2 := F.cell 2 _ rfl
  change bodyPost _ _ _ _ _ (setAllE w2 (w.heap.size + 1) 0 [.int .i64 r.1.kind, .int .i64 r.1.num, .slice a2 n2 c2])
  refine bodyPost_ret (v := .agg #[.int .i64 r.1.kind, .int .i64 r.1.num, .slice a2 n2 c2]) (by simp [results, Tryz.results62, go_sem, r0, r1, r2]) rfl ?_
  exact term_ret HB1.out (Nat.le_succ _) HT2.out HP2.out HG2.out (grown_set3 _ _ _ _ _) _ rfl
set_option maxRecDepth 100000 in
set_option maxHeartbeats 4000000 in
theorem pterm_2 {d p base : Nat} {N : NmV} {nm : Nm} (hL : ListC d p base N nm) (ns : Int) (pre name : ByteArray) (op : Int) (text : ByteArray) (fold : Bool) (mark fa fb : Int) (x : Lx d) {w : World} {st : PenS} {V : PV} {X : List (Option Nat)} {a : Option Addr} {n c : Nat} (h : PenAt w p base N nm st V X) (hx : RdL (· < p) d w a n c x) (ht : st.tot + 4 + cntL d x ≤ 1000000) :
    Calls Tryz.prog 62 #[.pointer (some ⟨p, 0, none⟩), sval ⟨2, ns, pre, name, op, text, fold, mark, fa, fb⟩ a n c] w (TermP 5 p base N nm X (penTerm (penL nm d) nm st (⟨2, ns, pre, name, op, text, fold, mark, fa, fb⟩, x)) V w) := by
  have hb0 := (Below.refl w.heap.size w).alloc (Nat.le_refl _) (.cells #[.int .i64 2, .int .i64 ns, .string pre, .string name, .int .i64 op, .string text, .bool fold, .int .i64 mark, .int .i64 fa, .int .i64 fb, .slice a n c] 118)
  have hb1 := hb0.alloc hb0.size (.cells #[.int .i64 0, .int .i64 0, .slice none 0 0] 110)
  have HB1 := Lib.hid hb1
  have HP1 := Lib.hid (h.fresh hb1 (Nat.le_succ _) (by simp))
  have DS := Lib.hid (show Blk ((w.alloc (.cells #[.int .i64 2, .int .i64 ns, .string pre, .string name, .int .i64 op, .string text, .bool fold, .int .i64 mark, .int .i64 fa, .int .i64 fb, .slice a n c] 118)).alloc (.cells #[.int .i64 0, .int .i64 0, .slice none 0 0] 110)) w.heap.size [.int .i64 2, .int .i64 ns, .string pre, .string name, .int .i64 op, .string text, .bool fold, .int .i64 mark, .int .i64 fa, .int .i64 fb, .slice a n c] 118 from (Blk.alloc [.int .i64 2, .int .i64 ns, .string pre, .string name, .int .i64 op, .string text, .bool fold, .int .i64 mark, .int .i64 fa, .int .i64 fb, .slice a n c] _).alloc_old _)
  have D1 := Lib.hid (show Blk ((w.alloc (.cells #[.int .i64 2, .int .i64 ns, .string pre, .string name, .int .i64 op, .string text, .bool fold, .int .i64 mark, .int .i64 fa, .int .i64 fb, .slice a n c] 118)).alloc (.cells #[.int .i64 0, .int .i64 0, .slice none 0 0] 110)) (w.heap.size + 1) [.int .i64 0, .int .i64 0, .slice none 0 0] 110 from by
    have hh : Blk ((w.alloc (.cells #[.int .i64 2, .int .i64 ns, .string pre, .string name, .int .i64 op, .string text, .bool fold, .int .i64 mark, .int .i64 fa, .int .i64 fb, .slice a n c] 118)).alloc (.cells #[.int .i64 0, .int .i64 0, .slice none 0 0] 110)) (w.alloc (.cells #[.int .i64 2, .int .i64 ns, .string pre, .string name, .int .i64 op, .string text, .bool fold, .int .i64 mark, .int .i64 fa, .int .i64 fb, .slice a n c] 118)).heap.size [.int .i64 0, .int .i64 0, .slice none 0 0] 110 := Blk.alloc [.int .i64 0, .int .i64 0, .slice none 0 0] _
    rwa [show (w.alloc (.cells #[.int .i64 2, .int .i64 ns, .string pre, .string name, .int .i64 op, .string text, .bool fold, .int .i64 mark, .int .i64 fa, .int .i64 fb, .slice a n c] 118)).heap.size = w.heap.size + 1 from by simp] at hh)
  have HX1 := Lib.hid (RdL.move (w' := (w.alloc (.cells #[.int .i64 2, .int .i64 ns, .string pre, .string name, .int .i64 op, .string text, .bool fold, .int .i64 mark, .int .i64 fa, .int .i64 fb, .slice a n c] 118)).alloc (.cells #[.int .i64 0, .int .i64 0, .slice none 0 0] 110)) (fun b hb => ⟨hb, hb1.block b (Nat.lt_trans hb h.blk.lt)⟩) hx)
  have s0 := DS.out.cell 0 _ rfl
  have s1 := DS.out.cell 1 _ rfl
  have s2 := DS.out.cell 2 _ rfl
  have s3 := DS.out.cell 3 _ rfl
  have s4 := DS.out.cell 4 _ rfl
  have s5 := DS.out.cell 5 _ rfl
  have s6 := DS.out.cell 6 _ rfl
  have s7 := DS.out.cell 7 _ rfl
  have s8 := DS.out.cell 8 _ rfl
  have s9 := DS.out.cell 9 _ rfl
  have s10 := DS.out.cell 10 _ rfl
  have HH := Lib.hid h
  have HTT := Lib.hid ht
  have HL := Lib.hid hL
  unfold sval
  dsimp only
  have fE := pelem_any (f := 5) HP1.out name ns pre (by omega)
  rw [show penTerm (penL nm d) nm st (⟨2, ns, pre, name, op, text, fold, mark, fa, fb⟩, x) = penElem nm st name ns pre from rfl]
  generalize penElem nm st name ns pre = r at *
  clear h hx ht hb0 hb1 hL
  go_enter Tryz.func62, Tryz.ntmps62
  go_wp2_with (go_at_call 93; (with_reducible refine fE.mono ?_); rintro e w2 ⟨V2, a2, n2, c2, rfl, hT2, hP2, hG2⟩; have HT2 := Lib.hid hT2; have HP2 := Lib.hid hP2; have HG2 := Lib.hid hG2; have D2 := Lib.hid (Blk.pg HP1.out (by simp) hG2 D1.out); have t0 := D2.out.cell 0 _ rfl; have t1 := D2.out.cell 1 _ rfl; have t2 := D2.out.cell 2 _ rfl; have g0 := D2.out.frozen 0; have g1 := D2.out.frozen 1; have g2 := D2.out.frozen 2; clear hT2 hP2 hG2)
  have F := setAll_blkE [.int .i64 r.1.kind, .int .i64 r.1.num, .slice a2 n2 c2] 0 _ _ D2.out
  have r0 := F.cell 0 _ rfl
  have r1 := F.cell 1 _ rfl
  have r2 := F.cell 2 _ rfl
  change bodyPost _ _ _ _ _ (setAllE w2 (w.heap.size + 1) 0 [.int .i64 r.1.kind, .int .i64 r.1.num, .slice a2 n2 c2])
  refine bodyPost_ret (v := .agg #[.int .i64 r.1.kind, .int .i64 r.1.num, .slice a2 n2 c2]) (by simp [results, Tryz.results62, go_sem, r0, r1, r2]) rfl ?_
  exact term_ret HB1.out (Nat.le_succ _) HT2.out HP2.out HG2.out (grown_set3 _ _ _ _ _) _ rfl
set_option maxRecDepth 100000 in
set_option maxHeartbeats 4000000 in
theorem pterm_3 {d p base : Nat} {N : NmV} {nm : Nm} (hL : ListC d p base N nm) (ns : Int) (pre name : ByteArray) (op : Int) (text : ByteArray) (fold : Bool) (mark fa fb : Int) (x : Lx d) {w : World} {st : PenS} {V : PV} {X : List (Option Nat)} {a : Option Addr} {n c : Nat} (h : PenAt w p base N nm st V X) (hx : RdL (· < p) d w a n c x) (ht : st.tot + 4 + cntL d x ≤ 1000000) :
    Calls Tryz.prog 62 #[.pointer (some ⟨p, 0, none⟩), sval ⟨3, ns, pre, name, op, text, fold, mark, fa, fb⟩ a n c] w (TermP 5 p base N nm X (penTerm (penL nm d) nm st (⟨3, ns, pre, name, op, text, fold, mark, fa, fb⟩, x)) V w) := by
  have hb0 := (Below.refl w.heap.size w).alloc (Nat.le_refl _) (.cells #[.int .i64 3, .int .i64 ns, .string pre, .string name, .int .i64 op, .string text, .bool fold, .int .i64 mark, .int .i64 fa, .int .i64 fb, .slice a n c] 118)
  have hb1 := hb0.alloc hb0.size (.cells #[.int .i64 0, .int .i64 0, .slice none 0 0] 110)
  have HB1 := Lib.hid hb1
  have HP1 := Lib.hid (h.fresh hb1 (Nat.le_succ _) (by simp))
  have DS := Lib.hid (show Blk ((w.alloc (.cells #[.int .i64 3, .int .i64 ns, .string pre, .string name, .int .i64 op, .string text, .bool fold, .int .i64 mark, .int .i64 fa, .int .i64 fb, .slice a n c] 118)).alloc (.cells #[.int .i64 0, .int .i64 0, .slice none 0 0] 110)) w.heap.size [.int .i64 3, .int .i64 ns, .string pre, .string name, .int .i64 op, .string text, .bool fold, .int .i64 mark, .int .i64 fa, .int .i64 fb, .slice a n c] 118 from (Blk.alloc [.int .i64 3, .int .i64 ns, .string pre, .string name, .int .i64 op, .string text, .bool fold, .int .i64 mark, .int .i64 fa, .int .i64 fb, .slice a n c] _).alloc_old _)
  have D1 := Lib.hid (show Blk ((w.alloc (.cells #[.int .i64 3, .int .i64 ns, .string pre, .string name, .int .i64 op, .string text, .bool fold, .int .i64 mark, .int .i64 fa, .int .i64 fb, .slice a n c] 118)).alloc (.cells #[.int .i64 0, .int .i64 0, .slice none 0 0] 110)) (w.heap.size + 1) [.int .i64 0, .int .i64 0, .slice none 0 0] 110 from by
    have hh : Blk ((w.alloc (.cells #[.int .i64 3, .int .i64 ns, .string pre, .string name, .int .i64 op, .string text, .bool fold, .int .i64 mark, .int .i64 fa, .int .i64 fb, .slice a n c] 118)).alloc (.cells #[.int .i64 0, .int .i64 0, .slice none 0 0] 110)) (w.alloc (.cells #[.int .i64 3, .int .i64 ns, .string pre, .string name, .int .i64 op, .string text, .bool fold, .int .i64 mark, .int .i64 fa, .int .i64 fb, .slice a n c] 118)).heap.size [.int .i64 0, .int .i64 0, .slice none 0 0] 110 := Blk.alloc [.int .i64 0, .int .i64 0, .slice none 0 0] _
    rwa [show (w.alloc (.cells #[.int .i64 3, .int .i64 ns, .string pre, .string name, .int .i64 op, .string text, .bool fold, .int .i64 mark, .int .i64 fa, .int .i64 fb, .slice a n c] 118)).heap.size = w.heap.size + 1 from by simp] at hh)
  have HX1 := Lib.hid (RdL.move (w' := (w.alloc (.cells #[.int .i64 3, .int .i64 ns, .string pre, .string name, .int .i64 op, .string text, .bool fold, .int .i64 mark, .int .i64 fa, .int .i64 fb, .slice a n c] 118)).alloc (.cells #[.int .i64 0, .int .i64 0, .slice none 0 0] 110)) (fun b hb => ⟨hb, hb1.block b (Nat.lt_trans hb h.blk.lt)⟩) hx)
  have s0 := DS.out.cell 0 _ rfl
  have s1 := DS.out.cell 1 _ rfl
  have s2 := DS.out.cell 2 _ rfl
  have s3 := DS.out.cell 3 _ rfl
  have s4 := DS.out.cell 4 _ rfl
  have s5 := DS.out.cell 5 _ rfl
  have s6 := DS.out.cell 6 _ rfl
  have s7 := DS.out.cell 7 _ rfl
  have s8 := DS.out.cell 8 _ rfl
  have s9 := DS.out.cell 9 _ rfl
  have s10 := DS.out.cell 10 _ rfl
  have HH := Lib.hid h
  have HTT := Lib.hid ht
  have HL := Lib.hid hL
  unfold sval
  dsimp only
  have fE := pplain_any (f := 5) HP1.out ⟨#[99, 108, 97, 115, 115]⟩ 3 name (by omega)
  rw [show penTerm (penL nm d) nm st (⟨3, ns, pre, name, op, text, fold, mark, fa, fb⟩, x) = penPlain st ⟨#[99, 108, 97, 115, 115]⟩ 3 name from rfl]
  generalize penPlain st ⟨#[99, 108, 97, 115, 115]⟩ 3 name = r at *
  clear h hx ht hb0 hb1 hL
  go_enter Tryz.func62, Tryz.ntmps62
  go_wp2_with (go_at_call 94; (with_reducible refine fE.mono ?_); rintro e w2 ⟨V2, a2, n2, c2, rfl, hT2, hP2, hG2⟩; have HT2 := Lib.hid hT2; have HP2 := Lib.hid hP2; have HG2 := Lib.hid hG2; have D2 := Lib.hid (Blk.pg HP1.out (by simp) hG2 D1.out); have t0 := D2.out.cell 0 _ rfl; have t1 := D2.out.cell 1 _ rfl; have t2 := D2.out.cell 2 _ rfl; have g0 := D2.out.frozen 0; have g1 := D2.out.frozen 1; have g2 := D2.out.frozen 2; clear hT2 hP2 hG2)
  have F := setAll_blkE [.int .i64 r.1.kind, .int .i64 r.1.num, .slice a2 n2 c2] 0 _ _ D2.out
  have r0 := F.cell 0 _ rfl
  have r1 := F.cell 1 _ rfl
  have r2 := F.cell 2 _ rfl
  change bodyPost _ _ _ _ _ (setAllE w2 (w.heap.size + 1) 0 [.int .i64 r.1.kind, .int .i64 r.1.num, .slice a2 n2 c2])
  refine bodyPost_ret (v := .agg #[.int .i64 r.1.kind, .int .i64 r.1.num, .slice a2 n2 c2]) (by simp [results, Tryz.results62, go_sem, r0, r1, r2]) rfl ?_
  exact term_ret HB1.out (Nat.le_succ _) HT2.out HP2.out HG2.out (grown_set3 _ _ _ _ _) _ rfl
set_option maxRecDepth 100000 in
set_option maxHeartbeats 4000000 in
theorem pterm_4 {d p base : Nat} {N : NmV} {nm : Nm} (hL : ListC d p base N nm) (ns : Int) (pre name : ByteArray) (op : Int) (text : ByteArray) (fold : Bool) (mark fa fb : Int) (x : Lx d) {w : World} {st : PenS} {V : PV} {X : List (Option Nat)} {a : Option Addr} {n c : Nat} (h : PenAt w p base N nm st V X) (hx : RdL (· < p) d w a n c x) (ht : st.tot + 4 + cntL d x ≤ 1000000) :
    Calls Tryz.prog 62 #[.pointer (some ⟨p, 0, none⟩), sval ⟨4, ns, pre, name, op, text, fold, mark, fa, fb⟩ a n c] w (TermP 5 p base N nm X (penTerm (penL nm d) nm st (⟨4, ns, pre, name, op, text, fold, mark, fa, fb⟩, x)) V w) := by
  have hb0 := (Below.refl w.heap.size w).alloc (Nat.le_refl _) (.cells #[.int .i64 4, .int .i64 ns, .string pre, .string name, .int .i64 op, .string text, .bool fold, .int .i64 mark, .int .i64 fa, .int .i64 fb, .slice a n c] 118)
  have hb1 := hb0.alloc hb0.size (.cells #[.int .i64 0, .int .i64 0, .slice none 0 0] 110)
  have HB1 := Lib.hid hb1
  have HP1 := Lib.hid (h.fresh hb1 (Nat.le_succ _) (by simp))
  have DS := Lib.hid (show Blk ((w.alloc (.cells #[.int .i64 4, .int .i64 ns, .string pre, .string name, .int .i64 op, .string text, .bool fold, .int .i64 mark, .int .i64 fa, .int .i64 fb, .slice a n c] 118)).alloc (.cells #[.int .i64 0, .int .i64 0, .slice none 0 0] 110)) w.heap.size [.int .i64 4, .int .i64 ns, .string pre, .string name, .int .i64 op, .string text, .bool fold, .int .i64 mark, .int .i64 fa, .int .i64 fb, .slice a n c] 118 from (Blk.alloc [.int .i64 4, .int .i64 ns, .string pre, .string name, .int .i64 op, .string text, .bool fold, .int .i64 mark, .int .i64 fa, .int .i64 fb, .slice a n c] _).alloc_old _)
  have D1 := Lib.hid (show Blk ((w.alloc (.cells #[.int .i64 4, .int .i64 ns, .string pre, .string name, .int .i64 op, .string text, .bool fold, .int .i64 mark, .int .i64 fa, .int .i64 fb, .slice a n c] 118)).alloc (.cells #[.int .i64 0, .int .i64 0, .slice none 0 0] 110)) (w.heap.size + 1) [.int .i64 0, .int .i64 0, .slice none 0 0] 110 from by
    have hh : Blk ((w.alloc (.cells #[.int .i64 4, .int .i64 ns, .string pre, .string name, .int .i64 op, .string text, .bool fold, .int .i64 mark, .int .i64 fa, .int .i64 fb, .slice a n c] 118)).alloc (.cells #[.int .i64 0, .int .i64 0, .slice none 0 0] 110)) (w.alloc (.cells #[.int .i64 4, .int .i64 ns, .string pre, .string name, .int .i64 op, .string text, .bool fold, .int .i64 mark, .int .i64 fa, .int .i64 fb, .slice a n c] 118)).heap.size [.int .i64 0, .int .i64 0, .slice none 0 0] 110 := Blk.alloc [.int .i64 0, .int .i64 0, .slice none 0 0] _
    rwa [show (w.alloc (.cells #[.int .i64 4, .int .i64 ns, .string pre, .string name, .int .i64 op, .string text, .bool fold, .int .i64 mark, .int .i64 fa, .int .i64 fb, .slice a n c] 118)).heap.size = w.heap.size + 1 from by simp] at hh)
  have HX1 := Lib.hid (RdL.move (w' := (w.alloc (.cells #[.int .i64 4, .int .i64 ns, .string pre, .string name, .int .i64 op, .string text, .bool fold, .int .i64 mark, .int .i64 fa, .int .i64 fb, .slice a n c] 118)).alloc (.cells #[.int .i64 0, .int .i64 0, .slice none 0 0] 110)) (fun b hb => ⟨hb, hb1.block b (Nat.lt_trans hb h.blk.lt)⟩) hx)
  have s0 := DS.out.cell 0 _ rfl
  have s1 := DS.out.cell 1 _ rfl
  have s2 := DS.out.cell 2 _ rfl
  have s3 := DS.out.cell 3 _ rfl
  have s4 := DS.out.cell 4 _ rfl
  have s5 := DS.out.cell 5 _ rfl
  have s6 := DS.out.cell 6 _ rfl
  have s7 := DS.out.cell 7 _ rfl
  have s8 := DS.out.cell 8 _ rfl
  have s9 := DS.out.cell 9 _ rfl
  have s10 := DS.out.cell 10 _ rfl
  have HH := Lib.hid h
  have HTT := Lib.hid ht
  have HL := Lib.hid hL
  unfold sval
  dsimp only
  have fE := pplain_any (f := 5) HP1.out ⟨#[105, 100]⟩ 2 name (by omega)
  rw [show penTerm (penL nm d) nm st (⟨4, ns, pre, name, op, text, fold, mark, fa, fb⟩, x) = penPlain st ⟨#[105, 100]⟩ 2 name from rfl]
  generalize penPlain st ⟨#[105, 100]⟩ 2 name = r at *
  clear h hx ht hb0 hb1 hL
  go_enter Tryz.func62, Tryz.ntmps62
  go_wp2_with (go_at_call 94; (with_reducible refine fE.mono ?_); rintro e w2 ⟨V2, a2, n2, c2, rfl, hT2, hP2, hG2⟩; have HT2 := Lib.hid hT2; have HP2 := Lib.hid hP2; have HG2 := Lib.hid hG2; have D2 := Lib.hid (Blk.pg HP1.out (by simp) hG2 D1.out); have t0 := D2.out.cell 0 _ rfl; have t1 := D2.out.cell 1 _ rfl; have t2 := D2.out.cell 2 _ rfl; have g0 := D2.out.frozen 0; have g1 := D2.out.frozen 1; have g2 := D2.out.frozen 2; clear hT2 hP2 hG2)
  have F := setAll_blkE [.int .i64 r.1.kind, .int .i64 r.1.num, .slice a2 n2 c2] 0 _ _ D2.out
  have r0 := F.cell 0 _ rfl
  have r1 := F.cell 1 _ rfl
  have r2 := F.cell 2 _ rfl
  change bodyPost _ _ _ _ _ (setAllE w2 (w.heap.size + 1) 0 [.int .i64 r.1.kind, .int .i64 r.1.num, .slice a2 n2 c2])
  refine bodyPost_ret (v := .agg #[.int .i64 r.1.kind, .int .i64 r.1.num, .slice a2 n2 c2]) (by simp [results, Tryz.results62, go_sem, r0, r1, r2]) rfl ?_
  exact term_ret HB1.out (Nat.le_succ _) HT2.out HP2.out HG2.out (grown_set3 _ _ _ _ _) _ rfl
set_option maxRecDepth 100000 in
set_option maxHeartbeats 4000000 in
theorem pterm_5 {d p base : Nat} {N : NmV} {nm : Nm} (hL : ListC d p base N nm) (ns : Int) (pre name : ByteArray) (op : Int) (text : ByteArray) (fold : Bool) (mark fa fb : Int) (x : Lx d) {w : World} {st : PenS} {V : PV} {X : List (Option Nat)} {a : Option Addr} {n c : Nat} (h : PenAt w p base N nm st V X) (hx : RdL (· < p) d w a n c x) (ht : st.tot + 4 + cntL d x ≤ 1000000) :
    Calls Tryz.prog 62 #[.pointer (some ⟨p, 0, none⟩), sval ⟨5, ns, pre, name, op, text, fold, mark, fa, fb⟩ a n c] w (TermP 5 p base N nm X (penTerm (penL nm d) nm st (⟨5, ns, pre, name, op, text, fold, mark, fa, fb⟩, x)) V w) := by
  have hb0 := (Below.refl w.heap.size w).alloc (Nat.le_refl _) (.cells #[.int .i64 5, .int .i64 ns, .string pre, .string name, .int .i64 op, .string text, .bool fold, .int .i64 mark, .int .i64 fa, .int .i64 fb, .slice a n c] 118)
  have hb1 := hb0.alloc hb0.size (.cells #[.int .i64 0, .int .i64 0, .slice none 0 0] 110)
  have HB1 := Lib.hid hb1
  have HP1 := Lib.hid (h.fresh hb1 (Nat.le_succ _) (by simp))
  have DS := Lib.hid (show Blk ((w.alloc (.cells #[.int .i64 5, .int .i64 ns, .string pre, .string name, .int .i64 op, .string text, .bool fold, .int .i64 mark, .int .i64 fa, .int .i64 fb, .slice a n c] 118)).alloc (.cells #[.int .i64 0, .int .i64 0, .slice none 0 0] 110)) w.heap.size [.int .i64 5, .int .i64 ns, .string pre, .string name, .int .i64 op, .string text, .bool fold, .int .i64 mark, .int .i64 fa, .int .i64 fb, .slice a n c] 118 from (Blk.alloc [.int .i64 5, .int .i64 ns, .string pre, .string name, .int .i64 op, .string text, .bool fold, .int .i64 mark, .int .i64 fa, .int .i64 fb, .slice a n c] _).alloc_old _)
  have D1 := Lib.hid (show Blk ((w.alloc (.cells #[.int .i64 5, .int .i64 ns, .string pre, .string name, .int .i64 op, .string text, .bool fold, .int .i64 mark, .int .i64 fa, .int .i64 fb, .slice a n c] 118)).alloc (.cells #[.int .i64 0, .int .i64 0, .slice none 0 0] 110)) (w.heap.size + 1) [.int .i64 0, .int .i64 0, .slice none 0 0] 110 from by
    have hh : Blk ((w.alloc (.cells #[.int .i64 5, .int .i64 ns, .string pre, .string name, .int .i64 op, .string text, .bool fold, .int .i64 mark, .int .i64 fa, .int .i64 fb, .slice a n c] 118)).alloc (.cells #[.int .i64 0, .int .i64 0, .slice none 0 0] 110)) (w.alloc (.cells #[.int .i64 5, .int .i64 ns, .string pre, .string name, .int .i64 op, .string text, .bool fold, .int .i64 mark, .int .i64 fa, .int .i64 fb, .slice a n c] 118)).heap.size [.int .i64 0, .int .i64 0, .slice none 0 0] 110 := Blk.alloc [.int .i64 0, .int .i64 0, .slice none 0 0] _
    rwa [show (w.alloc (.cells #[.int .i64 5, .int .i64 ns, .string pre, .string name, .int .i64 op, .string text, .bool fold, .int .i64 mark, .int .i64 fa, .int .i64 fb, .slice a n c] 118)).heap.size = w.heap.size + 1 from by simp] at hh)
  have HX1 := Lib.hid (RdL.move (w' := (w.alloc (.cells #[.int .i64 5, .int .i64 ns, .string pre, .string name, .int .i64 op, .string text, .bool fold, .int .i64 mark, .int .i64 fa, .int .i64 fb, .slice a n c] 118)).alloc (.cells #[.int .i64 0, .int .i64 0, .slice none 0 0] 110)) (fun b hb => ⟨hb, hb1.block b (Nat.lt_trans hb h.blk.lt)⟩) hx)
  have s0 := DS.out.cell 0 _ rfl
  have s1 := DS.out.cell 1 _ rfl
  have s2 := DS.out.cell 2 _ rfl
  have s3 := DS.out.cell 3 _ rfl
  have s4 := DS.out.cell 4 _ rfl
  have s5 := DS.out.cell 5 _ rfl
  have s6 := DS.out.cell 6 _ rfl
  have s7 := DS.out.cell 7 _ rfl
  have s8 := DS.out.cell 8 _ rfl
  have s9 := DS.out.cell 9 _ rfl
  have s10 := DS.out.cell 10 _ rfl
  have HH := Lib.hid h
  have HTT := Lib.hid ht
  have HL := Lib.hid hL
  unfold sval
  dsimp only
  have fS := pspace_any HP1.out ns pre true
  rw [show penTerm (penL nm d) nm st (⟨5, ns, pre, name, op, text, fold, mark, fa, fb⟩, x) = penAtom st ⟨2, (spaceF nm ns pre true).1, (spaceF nm ns pre true).2, name, op, text, fold⟩ from rfl]
  generalize spaceF nm ns pre true = q at *
  obtain ⟨qb, qs⟩ := q
  dsimp only at fS ⊢
  have hsp := fun (w3 : World) (hb3 : Below ((w.alloc (.cells #[.int .i64 5, .int .i64 ns, .string pre, .string name, .int .i64 op, .string text, .bool fold, .int .i64 mark, .int .i64 fa, .int .i64 fb, .slice a n c] 118)).alloc (.cells #[.int .i64 0, .int .i64 0, .slice none 0 0] 110)).heap.size ((w.alloc (.cells #[.int .i64 5, .int .i64 ns, .string pre, .string name, .int .i64 op, .string text, .bool fold, .int .i64 mark, .int .i64 fa, .int .i64 fb, .slice a n c] 118)).alloc (.cells #[.int .i64 0, .int .i64 0, .slice none 0 0] 110)) w3) => Lib.hid (HP1.out.later hb3)
  have HSP := Lib.hid hsp
  have HFA := Lib.hid (fun (w3 : World) (hb3 : Below ((w.alloc (.cells #[.int .i64 5, .int .i64 ns, .string pre, .string name, .int .i64 op, .string text, .bool fold, .int .i64 mark, .int .i64 fa, .int .i64 fb, .slice a n c] 118)).alloc (.cells #[.int .i64 0, .int .i64 0, .slice none 0 0] 110)).heap.size ((w.alloc (.cells #[.int .i64 5, .int .i64 ns, .string pre, .string name, .int .i64 op, .string text, .bool fold, .int .i64 mark, .int .i64 fa, .int .i64 fb, .slice a n c] 118)).alloc (.cells #[.int .i64 0, .int .i64 0, .slice none 0 0] 110)) w3) => patom_any (f := 5) (HSP.out w3 hb3).out ⟨2, qb, qs, name, op, text, fold⟩ (by have := HTT.out; omega))
  dsimp only at HFA
  generalize penAtom st ⟨2, qb, qs, name, op, text, fold⟩ = r at *
  clear h hx ht hb0 hb1 hL hsp
  go_enter Tryz.func62, Tryz.ntmps62
  go_wp2_with (first
    | (go_at_call 95; (with_reducible refine fS.mono ?_); rintro e w3 ⟨rfl, hb3⟩; have fA := HFA.out w3 hb3; have HP3 := HSP.out w3 hb3; have D3 := Lib.hid (D1.out.later hb3 D1.out.lt); have DS3 := Lib.hid (DS.out.later hb3 DS.out.lt); have HB3 := Lib.hid (HB1.out.trans (hb3.mono HB1.out.size)); have y0 := DS3.out.cell 0 _ rfl; have y1 := DS3.out.cell 1 _ rfl; have y2 := DS3.out.cell 2 _ rfl; have y3 := DS3.out.cell 3 _ rfl; have y4 := DS3.out.cell 4 _ rfl; have y5 := DS3.out.cell 5 _ rfl; have y6 := DS3.out.cell 6 _ rfl; have y7 := DS3.out.cell 7 _ rfl; have y8 := DS3.out.cell 8 _ rfl; have y9 := DS3.out.cell 9 _ rfl; have y10 := DS3.out.cell 10 _ rfl; clear hb3)
    | (go_at_call 96; (with_reducible refine fA.mono ?_); rintro e w2 ⟨V2, a2, n2, c2, rfl, hT2, hP2, hG2⟩; have HT2 := Lib.hid hT2; have HP2 := Lib.hid hP2; have HG2 := Lib.hid hG2; have D2 := Lib.hid (Blk.pg HP3.out (by simp) hG2 D3.out); have t0 := D2.out.cell 0 _ rfl; have t1 := D2.out.cell 1 _ rfl; have t2 := D2.out.cell 2 _ rfl; have g0 := D2.out.frozen 0; have g1 := D2.out.frozen 1; have g2 := D2.out.frozen 2; clear hT2 hP2 hG2))
  have F := setAll_blkE [.int .i64 r.1.kind, .int .i64 r.1.num, .slice a2 n2 c2] 0 _ _ D2.out
  have r0 := F.cell 0 _ rfl
  have r1 := F.cell 1 _ rfl
  have r2 := F.cell 2 _ rfl
  change bodyPost _ _ _ _ _ (setAllE w2 (w.heap.size + 1) 0 [.int .i64 r.1.kind, .int .i64 r.1.num, .slice a2 n2 c2])
  refine bodyPost_ret (v := .agg #[.int .i64 r.1.kind, .int .i64 r.1.num, .slice a2 n2 c2]) (by simp [results, Tryz.results62, go_sem, r0, r1, r2]) rfl ?_
  exact term_ret HB3.out (Nat.le_succ _) HT2.out HP2.out HG2.out (grown_set3 _ _ _ _ _) _ rfl
set_option maxRecDepth 100000 in
set_option maxHeartbeats 4000000 in
theorem pterm_11 {d p base : Nat} {N : NmV} {nm : Nm} (hL : ListC d p base N nm) (ns : Int) (pre name : ByteArray) (op : Int) (text : ByteArray) (fold : Bool) (mark fa fb : Int) (x : Lx d) {w : World} {st : PenS} {V : PV} {X : List (Option Nat)} {a : Option Addr} {n c : Nat} (h : PenAt w p base N nm st V X) (hx : RdL (· < p) d w a n c x) (ht : st.tot + 4 + cntL d x ≤ 1000000) :
    Calls Tryz.prog 62 #[.pointer (some ⟨p, 0, none⟩), sval ⟨11, ns, pre, name, op, text, fold, mark, fa, fb⟩ a n c] w (TermP 5 p base N nm X (penTerm (penL nm d) nm st (⟨11, ns, pre, name, op, text, fold, mark, fa, fb⟩, x)) V w) := by
  have hb0 := (Below.refl w.heap.size w).alloc (Nat.le_refl _) (.cells #[.int .i64 11, .int .i64 ns, .string pre, .string name, .int .i64 op, .string text, .bool fold, .int .i64 mark, .int .i64 fa, .int .i64 fb, .slice a n c] 118)
  have hb1 := hb0.alloc hb0.size (.cells #[.int .i64 0, .int .i64 0, .slice none 0 0] 110)
  have HB1 := Lib.hid hb1
  have HP1 := Lib.hid (h.fresh hb1 (Nat.le_succ _) (by simp))
  have DS := Lib.hid (show Blk ((w.alloc (.cells #[.int .i64 11, .int .i64 ns, .string pre, .string name, .int .i64 op, .string text, .bool fold, .int .i64 mark, .int .i64 fa, .int .i64 fb, .slice a n c] 118)).alloc (.cells #[.int .i64 0, .int .i64 0, .slice none 0 0] 110)) w.heap.size [.int .i64 11, .int .i64 ns, .string pre, .string name, .int .i64 op, .string text, .bool fold, .int .i64 mark, .int .i64 fa, .int .i64 fb, .slice a n c] 118 from (Blk.alloc [.int .i64 11, .int .i64 ns, .string pre, .string name, .int .i64 op, .string text, .bool fold, .int .i64 mark, .int .i64 fa, .int .i64 fb, .slice a n c] _).alloc_old _)
  have D1 := Lib.hid (show Blk ((w.alloc (.cells #[.int .i64 11, .int .i64 ns, .string pre, .string name, .int .i64 op, .string text, .bool fold, .int .i64 mark, .int .i64 fa, .int .i64 fb, .slice a n c] 118)).alloc (.cells #[.int .i64 0, .int .i64 0, .slice none 0 0] 110)) (w.heap.size + 1) [.int .i64 0, .int .i64 0, .slice none 0 0] 110 from by
    have hh : Blk ((w.alloc (.cells #[.int .i64 11, .int .i64 ns, .string pre, .string name, .int .i64 op, .string text, .bool fold, .int .i64 mark, .int .i64 fa, .int .i64 fb, .slice a n c] 118)).alloc (.cells #[.int .i64 0, .int .i64 0, .slice none 0 0] 110)) (w.alloc (.cells #[.int .i64 11, .int .i64 ns, .string pre, .string name, .int .i64 op, .string text, .bool fold, .int .i64 mark, .int .i64 fa, .int .i64 fb, .slice a n c] 118)).heap.size [.int .i64 0, .int .i64 0, .slice none 0 0] 110 := Blk.alloc [.int .i64 0, .int .i64 0, .slice none 0 0] _
    rwa [show (w.alloc (.cells #[.int .i64 11, .int .i64 ns, .string pre, .string name, .int .i64 op, .string text, .bool fold, .int .i64 mark, .int .i64 fa, .int .i64 fb, .slice a n c] 118)).heap.size = w.heap.size + 1 from by simp] at hh)
  have HX1 := Lib.hid (RdL.move (w' := (w.alloc (.cells #[.int .i64 11, .int .i64 ns, .string pre, .string name, .int .i64 op, .string text, .bool fold, .int .i64 mark, .int .i64 fa, .int .i64 fb, .slice a n c] 118)).alloc (.cells #[.int .i64 0, .int .i64 0, .slice none 0 0] 110)) (fun b hb => ⟨hb, hb1.block b (Nat.lt_trans hb h.blk.lt)⟩) hx)
  have s0 := DS.out.cell 0 _ rfl
  have s1 := DS.out.cell 1 _ rfl
  have s2 := DS.out.cell 2 _ rfl
  have s3 := DS.out.cell 3 _ rfl
  have s4 := DS.out.cell 4 _ rfl
  have s5 := DS.out.cell 5 _ rfl
  have s6 := DS.out.cell 6 _ rfl
  have s7 := DS.out.cell 7 _ rfl
  have s8 := DS.out.cell 8 _ rfl
  have s9 := DS.out.cell 9 _ rfl
  have s10 := DS.out.cell 10 _ rfl
  have HH := Lib.hid h
  have HTT := Lib.hid ht
  have HL := Lib.hid hL
  unfold sval
  dsimp only
  have fE := patom_any (f := 5) HP1.out ⟨3, false, ⟨#[]⟩, name, 0, ⟨#[]⟩, false⟩ (by omega)
  rw [show penTerm (penL nm d) nm st (⟨11, ns, pre, name, op, text, fold, mark, fa, fb⟩, x) = penAtom st ⟨3, false, ⟨#[]⟩, name, 0, ⟨#[]⟩, false⟩ from rfl]
  dsimp only at fE
  generalize penAtom st ⟨3, false, ⟨#[]⟩, name, 0, ⟨#[]⟩, false⟩ = r at *
  clear h hx ht hb0 hb1 hL
  go_enter Tryz.func62, Tryz.ntmps62
  go_wp2_with (go_at_call 96; (with_reducible refine fE.mono ?_); rintro e w2 ⟨V2, a2, n2, c2, rfl, hT2, hP2, hG2⟩; have HT2 := Lib.hid hT2; have HP2 := Lib.hid hP2; have HG2 := Lib.hid hG2; have D2 := Lib.hid (Blk.pg HP1.out (by simp) hG2 D1.out); have t0 := D2.out.cell 0 _ rfl; have t1 := D2.out.cell 1 _ rfl; have t2 := D2.out.cell 2 _ rfl; have g0 := D2.out.frozen 0; have g1 := D2.out.frozen 1; have g2 := D2.out.frozen 2; clear hT2 hP2 hG2)
  have F := setAll_blkE [.int .i64 r.1.kind, .int .i64 r.1.num, .slice a2 n2 c2] 0 _ _ D2.out
  have r0 := F.cell 0 _ rfl
  have r1 := F.cell 1 _ rfl
  have r2 := F.cell 2 _ rfl
  change bodyPost _ _ _ _ _ (setAllE w2 (w.heap.size + 1) 0 [.int .i64 r.1.kind, .int .i64 r.1.num, .slice a2 n2 c2])
  refine bodyPost_ret (v := .agg #[.int .i64 r.1.kind, .int .i64 r.1.num, .slice a2 n2 c2]) (by simp [results, Tryz.results62, go_sem, r0, r1, r2]) rfl ?_
  exact term_ret HB1.out (Nat.le_succ _) HT2.out HP2.out HG2.out (grown_set3 _ _ _ _ _) _ rfl
set_option maxRecDepth 100000 in
set_option maxHeartbeats 4000000 in
theorem pterm_6 {d p base : Nat} {N : NmV} {nm : Nm} (hL : ListC d p base N nm) (ns : Int) (pre name : ByteArray) (op : Int) (text : ByteArray) (fold : Bool) (mark fa fb : Int) (x : Lx d) {w : World} {st : PenS} {V : PV} {X : List (Option Nat)} {a : Option Addr} {n c : Nat} (h : PenAt w p base N nm st V X) (hx : RdL (· < p) d w a n c x) (ht : st.tot + 4 + cntL d x ≤ 1000000) :
    Calls Tryz.prog 62 #[.pointer (some ⟨p, 0, none⟩), sval ⟨6, ns, pre, name, op, text, fold, mark, fa, fb⟩ a n c] w (TermP 5 p base N nm X (penTerm (penL nm d) nm st (⟨6, ns, pre, name, op, text, fold, mark, fa, fb⟩, x)) V w) := by
  have hb0 := (Below.refl w.heap.size w).alloc (Nat.le_refl _) (.cells #[.int .i64 6, .int .i64 ns, .string pre, .string name, .int .i64 op, .string text, .bool fold, .int .i64 mark, .int .i64 fa, .int .i64 fb, .slice a n c] 118)
  have hb1 := hb0.alloc hb0.size (.cells #[.int .i64 0, .int .i64 0, .slice none 0 0] 110)
  have HB1 := Lib.hid hb1
  have HP1 := Lib.hid (h.fresh hb1 (Nat.le_succ _) (by simp))
  have DS := Lib.hid (show Blk ((w.alloc (.cells #[.int .i64 6, .int .i64 ns, .string pre, .string name, .int .i64 op, .string text, .bool fold, .int .i64 mark, .int .i64 fa, .int .i64 fb, .slice a n c] 118)).alloc (.cells #[.int .i64 0, .int .i64 0, .slice none 0 0] 110)) w.heap.size [.int .i64 6, .int .i64 ns, .string pre, .string name, .int .i64 op, .string text, .bool fold, .int .i64 mark, .int .i64 fa, .int .i64 fb, .slice a n c] 118 from (Blk.alloc [.int .i64 6, .int .i64 ns, .string pre, .string name, .int .i64 op, .string text, .bool fold, .int .i64 mark, .int .i64 fa, .int .i64 fb, .slice a n c] _).alloc_old _)
  have D1 := Lib.hid (show Blk ((w.alloc (.cells #[.int .i64 6, .int .i64 ns, .string pre, .string name, .int .i64 op, .string text, .bool fold, .int .i64 mark, .int .i64 fa, .int .i64 fb, .slice a n c] 118)).alloc (.cells #[.int .i64 0, .int .i64 0, .slice none 0 0] 110)) (w.heap.size + 1) [.int .i64 0, .int .i64 0, .slice none 0 0] 110 from by
    have hh : Blk ((w.alloc (.cells #[.int .i64 6, .int .i64 ns, .string pre, .string name, .int .i64 op, .string text, .bool fold, .int .i64 mark, .int .i64 fa, .int .i64 fb, .slice a n c] 118)).alloc (.cells #[.int .i64 0, .int .i64 0, .slice none 0 0] 110)) (w.alloc (.cells #[.int .i64 6, .int .i64 ns, .string pre, .string name, .int .i64 op, .string text, .bool fold, .int .i64 mark, .int .i64 fa, .int .i64 fb, .slice a n c] 118)).heap.size [.int .i64 0, .int .i64 0, .slice none 0 0] 110 := Blk.alloc [.int .i64 0, .int .i64 0, .slice none 0 0] _
    rwa [show (w.alloc (.cells #[.int .i64 6, .int .i64 ns, .string pre, .string name, .int .i64 op, .string text, .bool fold, .int .i64 mark, .int .i64 fa, .int .i64 fb, .slice a n c] 118)).heap.size = w.heap.size + 1 from by simp] at hh)
  have HX1 := Lib.hid (RdL.move (w' := (w.alloc (.cells #[.int .i64 6, .int .i64 ns, .string pre, .string name, .int .i64 op, .string text, .bool fold, .int .i64 mark, .int .i64 fa, .int .i64 fb, .slice a n c] 118)).alloc (.cells #[.int .i64 0, .int .i64 0, .slice none 0 0] 110)) (fun b hb => ⟨hb, hb1.block b (Nat.lt_trans hb h.blk.lt)⟩) hx)
  have s0 := DS.out.cell 0 _ rfl
  have s1 := DS.out.cell 1 _ rfl
  have s2 := DS.out.cell 2 _ rfl
  have s3 := DS.out.cell 3 _ rfl
  have s4 := DS.out.cell 4 _ rfl
  have s5 := DS.out.cell 5 _ rfl
  have s6 := DS.out.cell 6 _ rfl
  have s7 := DS.out.cell 7 _ rfl
  have s8 := DS.out.cell 8 _ rfl
  have s9 := DS.out.cell 9 _ rfl
  have s10 := DS.out.cell 10 _ rfl
  have HH := Lib.hid h
  have HTT := Lib.hid ht
  have HL := Lib.hid hL
  unfold sval
  dsimp only
  rw [show penTerm (penL nm d) nm st (⟨6, ns, pre, name, op, text, fold, mark, fa, fb⟩, x) = (.mk 6 0 [], st) from rfl]
  have t0 := D1.out.cell 0 _ rfl
  have t1 := D1.out.cell 1 _ rfl
  have t2 := D1.out.cell 2 _ rfl
  have g0 := D1.out.frozen 0
  have g1 := D1.out.frozen 1
  have g2 := D1.out.frozen 2
  clear h hx ht hb0 hb1 hL
  go_enter Tryz.func62, Tryz.ntmps62
  go_wp2
  have hbF := ((Below.refl w.heap.size w).alloc (Nat.le_refl _) (.cells #[.int .i64 6, .int .i64 ns, .string pre, .string name, .int .i64 op, .string text, .bool fold, .int .i64 mark, .int .i64 fa, .int .i64 fb, .slice a n c] 118)).alloc (by simp) (.cells #[.int .i64 6, .int .i64 0, .slice none 0 0] 110)
  have E1 : Blk ((w.alloc (.cells #[.int .i64 6, .int .i64 ns, .string pre, .string name, .int .i64 op, .string text, .bool fold, .int .i64 mark, .int .i64 fa, .int .i64 fb, .slice a n c] 118)).alloc (.cells #[.int .i64 6, .int .i64 0, .slice none 0 0] 110)) (w.heap.size + 1) [.int .i64 6, .int .i64 0, .slice none 0 0] 110 := by
    have hh : Blk ((w.alloc (.cells #[.int .i64 6, .int .i64 ns, .string pre, .string name, .int .i64 op, .string text, .bool fold, .int .i64 mark, .int .i64 fa, .int .i64 fb, .slice a n c] 118)).alloc (.cells #[.int .i64 6, .int .i64 0, .slice none 0 0] 110)) (w.alloc (.cells #[.int .i64 6, .int .i64 ns, .string pre, .string name, .int .i64 op, .string text, .bool fold, .int .i64 mark, .int .i64 fa, .int .i64 fb, .slice a n c] 118)).heap.size [.int .i64 6, .int .i64 0, .slice none 0 0] 110 := Blk.alloc [.int .i64 6, .int .i64 0, .slice none 0 0] _
    rwa [show (w.alloc (.cells #[.int .i64 6, .int .i64 ns, .string pre, .string name, .int .i64 op, .string text, .bool fold, .int .i64 mark, .int .i64 fa, .int .i64 fb, .slice a n c] 118)).heap.size = w.heap.size + 1 from by simp] at hh
  have r0 := E1.cell 0 _ rfl
  have r1 := E1.cell 1 _ rfl
  have r2 := E1.cell 2 _ rfl
  exact bodyPost_ret (v := .agg #[.int .i64 6, .int .i64 0, .slice none 0 0]) (by simp [results, Tryz.results62, go_sem, r0, r1, r2]) rfl (term_leaf (w1 := w) (g := 0) HH.out hbF _ rfl)
set_option maxRecDepth 100000 in
set_option maxHeartbeats 4000000 in
theorem pterm_8 {d p base : Nat} {N : NmV} {nm : Nm} (hL : ListC d p base N nm) (ns : Int) (pre name : ByteArray) (op : Int) (text : ByteArray) (fold : Bool) (mark fa fb : Int) (x : Lx d) {w : World} {st : PenS} {V : PV} {X : List (Option Nat)} {a : Option Addr} {n c : Nat} (h : PenAt w p base N nm st V X) (hx : RdL (· < p) d w a n c x) (ht : st.tot + 4 + cntL d x ≤ 1000000) :
    Calls Tryz.prog 62 #[.pointer (some ⟨p, 0, none⟩), sval ⟨8, ns, pre, name, op, text, fold, mark, fa, fb⟩ a n c] w (TermP 5 p base N nm X (penTerm (penL nm d) nm st (⟨8, ns, pre, name, op, text, fold, mark, fa, fb⟩, x)) V w) := by
  have hb0 := (Below.refl w.heap.size w).alloc (Nat.le_refl _) (.cells #[.int .i64 8, .int .i64 ns, .string pre, .string name, .int .i64 op, .string text, .bool fold, .int .i64 mark, .int .i64 fa, .int .i64 fb, .slice a n c] 118)
  have hb1 := hb0.alloc hb0.size (.cells #[.int .i64 0, .int .i64 0, .slice none 0 0] 110)
  have HB1 := Lib.hid hb1
  have HP1 := Lib.hid (h.fresh hb1 (Nat.le_succ _) (by simp))
  have DS := Lib.hid (show Blk ((w.alloc (.cells #[.int .i64 8, .int .i64 ns, .string pre, .string name, .int .i64 op, .string text, .bool fold, .int .i64 mark, .int .i64 fa, .int .i64 fb, .slice a n c] 118)).alloc (.cells #[.int .i64 0, .int .i64 0, .slice none 0 0] 110)) w.heap.size [.int .i64 8, .int .i64 ns, .string pre, .string name, .int .i64 op, .string text, .bool fold, .int .i64 mark, .int .i64 fa, .int .i64 fb, .slice a n c] 118 from (Blk.alloc [.int .i64 8, .int .i64 ns, .string pre, .string name, .int .i64 op, .string text, .bool fold, .int .i64 mark, .int .i64 fa, .int .i64 fb, .slice a n c] _).alloc_old _)
  have D1 := Lib.hid (show Blk ((w.alloc (.cells #[.int .i64 8, .int .i64 ns, .string pre, .string name, .int .i64 op, .string text, .bool fold, .int .i64 mark, .int .i64 fa, .int .i64 fb, .slice a n c] 118)).alloc (.cells #[.int .i64 0, .int .i64 0, .slice none 0 0] 110)) (w.heap.size + 1) [.int .i64 0, .int .i64 0, .slice none 0 0] 110 from by
    have hh : Blk ((w.alloc (.cells #[.int .i64 8, .int .i64 ns, .string pre, .string name, .int .i64 op, .string text, .bool fold, .int .i64 mark, .int .i64 fa, .int .i64 fb, .slice a n c] 118)).alloc (.cells #[.int .i64 0, .int .i64 0, .slice none 0 0] 110)) (w.alloc (.cells #[.int .i64 8, .int .i64 ns, .string pre, .string name, .int .i64 op, .string text, .bool fold, .int .i64 mark, .int .i64 fa, .int .i64 fb, .slice a n c] 118)).heap.size [.int .i64 0, .int .i64 0, .slice none 0 0] 110 := Blk.alloc [.int .i64 0, .int .i64 0, .slice none 0 0] _
    rwa [show (w.alloc (.cells #[.int .i64 8, .int .i64 ns, .string pre, .string name, .int .i64 op, .string text, .bool fold, .int .i64 mark, .int .i64 fa, .int .i64 fb, .slice a n c] 118)).heap.size = w.heap.size + 1 from by simp] at hh)
  have HX1 := Lib.hid (RdL.move (w' := (w.alloc (.cells #[.int .i64 8, .int .i64 ns, .string pre, .string name, .int .i64 op, .string text, .bool fold, .int .i64 mark, .int .i64 fa, .int .i64 fb, .slice a n c] 118)).alloc (.cells #[.int .i64 0, .int .i64 0, .slice none 0 0] 110)) (fun b hb => ⟨hb, hb1.block b (Nat.lt_trans hb h.blk.lt)⟩) hx)
  have s0 := DS.out.cell 0 _ rfl
  have s1 := DS.out.cell 1 _ rfl
  have s2 := DS.out.cell 2 _ rfl
  have s3 := DS.out.cell 3 _ rfl
  have s4 := DS.out.cell 4 _ rfl
  have s5 := DS.out.cell 5 _ rfl
  have s6 := DS.out.cell 6 _ rfl
  have s7 := DS.out.cell 7 _ rfl
  have s8 := DS.out.cell 8 _ rfl
  have s9 := DS.out.cell 9 _ rfl
  have s10 := DS.out.cell 10 _ rfl
  have HH := Lib.hid h
  have HTT := Lib.hid ht
  have HL := Lib.hid hL
  unfold sval
  dsimp only
  have fE := psome_any hL x HP1.out HX1.out (by omega)
  rw [show penTerm (penL nm d) nm st (⟨8, ns, pre, name, op, text, fold, mark, fa, fb⟩, x) = (tmRows (penL nm d x st).1, (penL nm d x st).2) from rfl]
  generalize (tmRows (penL nm d x st).1, (penL nm d x st).2) = r at *
  clear h hx ht hb0 hb1 hL
  go_enter Tryz.func62, Tryz.ntmps62
  go_wp2_with (go_at_call 97; (with_reducible refine fE.mono ?_); rintro e w2 ⟨V2, a2, n2, c2, rfl, hT2, hP2, hG2⟩; have HT2 := Lib.hid hT2; have HP2 := Lib.hid hP2; have HG2 := Lib.hid hG2; have D2 := Lib.hid (Blk.pg HP1.out (by simp) hG2 D1.out); have t0 := D2.out.cell 0 _ rfl; have t1 := D2.out.cell 1 _ rfl; have t2 := D2.out.cell 2 _ rfl; have g0 := D2.out.frozen 0; have g1 := D2.out.frozen 1; have g2 := D2.out.frozen 2; clear hT2 hP2 hG2)
  have F := setAll_blkE [.int .i64 r.1.kind, .int .i64 r.1.num, .slice a2 n2 c2] 0 _ _ D2.out
  have r0 := F.cell 0 _ rfl
  have r1 := F.cell 1 _ rfl
  have r2 := F.cell 2 _ rfl
  change bodyPost _ _ _ _ _ (setAllE w2 (w.heap.size + 1) 0 [.int .i64 r.1.kind, .int .i64 r.1.num, .slice a2 n2 c2])
  refine bodyPost_ret (v := .agg #[.int .i64 r.1.kind, .int .i64 r.1.num, .slice a2 n2 c2]) (by simp [results, Tryz.results62, go_sem, r0, r1, r2]) rfl ?_
  exact term_ret HB1.out (Nat.le_succ _) (TmsAt.up _ HT2.out) HP2.out HG2.out (grown_set3 _ _ _ _ _) _ rfl
set_option maxRecDepth 100000 in
set_option maxHeartbeats 4000000 in
theorem pterm_9 {d p base : Nat} {N : NmV} {nm : Nm} (hL : ListC d p base N nm) (ns : Int) (pre name : ByteArray) (op : Int) (text : ByteArray) (fold : Bool) (mark fa fb : Int) (x : Lx d) {w : World} {st : PenS} {V : PV} {X : List (Option Nat)} {a : Option Addr} {n c : Nat} (h : PenAt w p base N nm st V X) (hx : RdL (· < p) d w a n c x) (ht : st.tot + 4 + cntL d x ≤ 1000000) :
    Calls Tryz.prog 62 #[.pointer (some ⟨p, 0, none⟩), sval ⟨9, ns, pre, name, op, text, fold, mark, fa, fb⟩ a n c] w (TermP 5 p base N nm X (penTerm (penL nm d) nm st (⟨9, ns, pre, name, op, text, fold, mark, fa, fb⟩, x)) V w) := by
  have hb0 := (Below.refl w.heap.size w).alloc (Nat.le_refl _) (.cells #[.int .i64 9, .int .i64 ns, .string pre, .string name, .int .i64 op, .string text, .bool fold, .int .i64 mark, .int .i64 fa, .int .i64 fb, .slice a n c] 118)
  have hb1 := hb0.alloc hb0.size (.cells #[.int .i64 0, .int .i64 0, .slice none 0 0] 110)
  have HB1 := Lib.hid hb1
  have HP1 := Lib.hid (h.fresh hb1 (Nat.le_succ _) (by simp))
  have DS := Lib.hid (show Blk ((w.alloc (.cells #[.int .i64 9, .int .i64 ns, .string pre, .string name, .int .i64 op, .string text, .bool fold, .int .i64 mark, .int .i64 fa, .int .i64 fb, .slice a n c] 118)).alloc (.cells #[.int .i64 0, .int .i64 0, .slice none 0 0] 110)) w.heap.size [.int .i64 9, .int .i64 ns, .string pre, .string name, .int .i64 op, .string text, .bool fold, .int .i64 mark, .int .i64 fa, .int .i64 fb, .slice a n c] 118 from (Blk.alloc [.int .i64 9, .int .i64 ns, .string pre, .string name, .int .i64 op, .string text, .bool fold, .int .i64 mark, .int .i64 fa, .int .i64 fb, .slice a n c] _).alloc_old _)
  have D1 := Lib.hid (show Blk ((w.alloc (.cells #[.int .i64 9, .int .i64 ns, .string pre, .string name, .int .i64 op, .string text, .bool fold, .int .i64 mark, .int .i64 fa, .int .i64 fb, .slice a n c] 118)).alloc (.cells #[.int .i64 0, .int .i64 0, .slice none 0 0] 110)) (w.heap.size + 1) [.int .i64 0, .int .i64 0, .slice none 0 0] 110 from by
    have hh : Blk ((w.alloc (.cells #[.int .i64 9, .int .i64 ns, .string pre, .string name, .int .i64 op, .string text, .bool fold, .int .i64 mark, .int .i64 fa, .int .i64 fb, .slice a n c] 118)).alloc (.cells #[.int .i64 0, .int .i64 0, .slice none 0 0] 110)) (w.alloc (.cells #[.int .i64 9, .int .i64 ns, .string pre, .string name, .int .i64 op, .string text, .bool fold, .int .i64 mark, .int .i64 fa, .int .i64 fb, .slice a n c] 118)).heap.size [.int .i64 0, .int .i64 0, .slice none 0 0] 110 := Blk.alloc [.int .i64 0, .int .i64 0, .slice none 0 0] _
    rwa [show (w.alloc (.cells #[.int .i64 9, .int .i64 ns, .string pre, .string name, .int .i64 op, .string text, .bool fold, .int .i64 mark, .int .i64 fa, .int .i64 fb, .slice a n c] 118)).heap.size = w.heap.size + 1 from by simp] at hh)
  have HX1 := Lib.hid (RdL.move (w' := (w.alloc (.cells #[.int .i64 9, .int .i64 ns, .string pre, .string name, .int .i64 op, .string text, .bool fold, .int .i64 mark, .int .i64 fa, .int .i64 fb, .slice a n c] 118)).alloc (.cells #[.int .i64 0, .int .i64 0, .slice none 0 0] 110)) (fun b hb => ⟨hb, hb1.block b (Nat.lt_trans hb h.blk.lt)⟩) hx)
  have s0 := DS.out.cell 0 _ rfl
  have s1 := DS.out.cell 1 _ rfl
  have s2 := DS.out.cell 2 _ rfl
  have s3 := DS.out.cell 3 _ rfl
  have s4 := DS.out.cell 4 _ rfl
  have s5 := DS.out.cell 5 _ rfl
  have s6 := DS.out.cell 6 _ rfl
  have s7 := DS.out.cell 7 _ rfl
  have s8 := DS.out.cell 8 _ rfl
  have s9 := DS.out.cell 9 _ rfl
  have s10 := DS.out.cell 10 _ rfl
  have HH := Lib.hid h
  have HTT := Lib.hid ht
  have HL := Lib.hid hL
  unfold sval
  dsimp only
  have fE := psome_any hL x HP1.out HX1.out (by omega)
  rw [show penTerm (penL nm d) nm st (⟨9, ns, pre, name, op, text, fold, mark, fa, fb⟩, x) = (tmRows (penL nm d x st).1, (penL nm d x st).2) from rfl]
  generalize (tmRows (penL nm d x st).1, (penL nm d x st).2) = r at *
  clear h hx ht hb0 hb1 hL
  go_enter Tryz.func62, Tryz.ntmps62
  go_wp2_with (go_at_call 97; (with_reducible refine fE.mono ?_); rintro e w2 ⟨V2, a2, n2, c2, rfl, hT2, hP2, hG2⟩; have HT2 := Lib.hid hT2; have HP2 := Lib.hid hP2; have HG2 := Lib.hid hG2; have D2 := Lib.hid (Blk.pg HP1.out (by simp) hG2 D1.out); have t0 := D2.out.cell 0 _ rfl; have t1 := D2.out.cell 1 _ rfl; have t2 := D2.out.cell 2 _ rfl; have g0 := D2.out.frozen 0; have g1 := D2.out.frozen 1; have g2 := D2.out.frozen 2; clear hT2 hP2 hG2)
  have F := setAll_blkE [.int .i64 r.1.kind, .int .i64 r.1.num, .slice a2 n2 c2] 0 _ _ D2.out
  have r0 := F.cell 0 _ rfl
  have r1 := F.cell 1 _ rfl
  have r2 := F.cell 2 _ rfl
  change bodyPost _ _ _ _ _ (setAllE w2 (w.heap.size + 1) 0 [.int .i64 r.1.kind, .int .i64 r.1.num, .slice a2 n2 c2])
  refine bodyPost_ret (v := .agg #[.int .i64 r.1.kind, .int .i64 r.1.num, .slice a2 n2 c2]) (by simp [results, Tryz.results62, go_sem, r0, r1, r2]) rfl ?_
  exact term_ret HB1.out (Nat.le_succ _) (TmsAt.up _ HT2.out) HP2.out HG2.out (grown_set3 _ _ _ _ _) _ rfl
set_option maxRecDepth 100000 in
set_option maxHeartbeats 4000000 in
theorem pterm_10 {d p base : Nat} {N : NmV} {nm : Nm} (hL : ListC d p base N nm) (ns : Int) (pre name : ByteArray) (op : Int) (text : ByteArray) (fold : Bool) (mark fa fb : Int) (x : Lx d) {w : World} {st : PenS} {V : PV} {X : List (Option Nat)} {a : Option Addr} {n c : Nat} (h : PenAt w p base N nm st V X) (hx : RdL (· < p) d w a n c x) (ht : st.tot + 4 + cntL d x ≤ 1000000) :
    Calls Tryz.prog 62 #[.pointer (some ⟨p, 0, none⟩), sval ⟨10, ns, pre, name, op, text, fold, mark, fa, fb⟩ a n c] w (TermP 5 p base N nm X (penTerm (penL nm d) nm st (⟨10, ns, pre, name, op, text, fold, mark, fa, fb⟩, x)) V w) := by
  have hb0 := (Below.refl w.heap.size w).alloc (Nat.le_refl _) (.cells #[.int .i64 10, .int .i64 ns, .string pre, .string name, .int .i64 op, .string text, .bool fold, .int .i64 mark, .int .i64 fa, .int .i64 fb, .slice a n c] 118)
  have hb1 := hb0.alloc hb0.size (.cells #[.int .i64 0, .int .i64 0, .slice none 0 0] 110)
  have HB1 := Lib.hid hb1
  have HP1 := Lib.hid (h.fresh hb1 (Nat.le_succ _) (by simp))
  have DS := Lib.hid (show Blk ((w.alloc (.cells #[.int .i64 10, .int .i64 ns, .string pre, .string name, .int .i64 op, .string text, .bool fold, .int .i64 mark, .int .i64 fa, .int .i64 fb, .slice a n c] 118)).alloc (.cells #[.int .i64 0, .int .i64 0, .slice none 0 0] 110)) w.heap.size [.int .i64 10, .int .i64 ns, .string pre, .string name, .int .i64 op, .string text, .bool fold, .int .i64 mark, .int .i64 fa, .int .i64 fb, .slice a n c] 118 from (Blk.alloc [.int .i64 10, .int .i64 ns, .string pre, .string name, .int .i64 op, .string text, .bool fold, .int .i64 mark, .int .i64 fa, .int .i64 fb, .slice a n c] _).alloc_old _)
  have D1 := Lib.hid (show Blk ((w.alloc (.cells #[.int .i64 10, .int .i64 ns, .string pre, .string name, .int .i64 op, .string text, .bool fold, .int .i64 mark, .int .i64 fa, .int .i64 fb, .slice a n c] 118)).alloc (.cells #[.int .i64 0, .int .i64 0, .slice none 0 0] 110)) (w.heap.size + 1) [.int .i64 0, .int .i64 0, .slice none 0 0] 110 from by
    have hh : Blk ((w.alloc (.cells #[.int .i64 10, .int .i64 ns, .string pre, .string name, .int .i64 op, .string text, .bool fold, .int .i64 mark, .int .i64 fa, .int .i64 fb, .slice a n c] 118)).alloc (.cells #[.int .i64 0, .int .i64 0, .slice none 0 0] 110)) (w.alloc (.cells #[.int .i64 10, .int .i64 ns, .string pre, .string name, .int .i64 op, .string text, .bool fold, .int .i64 mark, .int .i64 fa, .int .i64 fb, .slice a n c] 118)).heap.size [.int .i64 0, .int .i64 0, .slice none 0 0] 110 := Blk.alloc [.int .i64 0, .int .i64 0, .slice none 0 0] _
    rwa [show (w.alloc (.cells #[.int .i64 10, .int .i64 ns, .string pre, .string name, .int .i64 op, .string text, .bool fold, .int .i64 mark, .int .i64 fa, .int .i64 fb, .slice a n c] 118)).heap.size = w.heap.size + 1 from by simp] at hh)
  have HX1 := Lib.hid (RdL.move (w' := (w.alloc (.cells #[.int .i64 10, .int .i64 ns, .string pre, .string name, .int .i64 op, .string text, .bool fold, .int .i64 mark, .int .i64 fa, .int .i64 fb, .slice a n c] 118)).alloc (.cells #[.int .i64 0, .int .i64 0, .slice none 0 0] 110)) (fun b hb => ⟨hb, hb1.block b (Nat.lt_trans hb h.blk.lt)⟩) hx)
  have s0 := DS.out.cell 0 _ rfl
  have s1 := DS.out.cell 1 _ rfl
  have s2 := DS.out.cell 2 _ rfl
  have s3 := DS.out.cell 3 _ rfl
  have s4 := DS.out.cell 4 _ rfl
  have s5 := DS.out.cell 5 _ rfl
  have s6 := DS.out.cell 6 _ rfl
  have s7 := DS.out.cell 7 _ rfl
  have s8 := DS.out.cell 8 _ rfl
  have s9 := DS.out.cell 9 _ rfl
  have s10 := DS.out.cell 10 _ rfl
  have HH := Lib.hid h
  have HTT := Lib.hid ht
  have HL := Lib.hid hL
  unfold sval
  dsimp only
  have fE := psome_any hL x HP1.out HX1.out (by omega)
  rw [show penTerm (penL nm d) nm st (⟨10, ns, pre, name, op, text, fold, mark, fa, fb⟩, x) = (tmNot (tmRows (penL nm d x st).1), (penL nm d x st).2) from rfl]
  generalize penL nm d x st = q at *
  obtain ⟨rs, st2⟩ := q
  dsimp only at fE ⊢
  generalize tmRows rs = t at *
  clear h hx ht hb0 hb1 hL
  go_enter Tryz.func62, Tryz.ntmps62
  go_wp2_with (first
    | (go_at_call 97; (with_reducible refine fE.mono ?_); rintro e w2 ⟨V2, a2, n2, c2, rfl, hT2, hP2, hG2⟩; have fN := pnot_any hP2 t a2 n2 c2 hT2; have HP2 := Lib.hid hP2; have HG2 := Lib.hid hG2; have D2 := Lib.hid (Blk.pg HP1.out (by simp) hG2 D1.out); clear hT2 hP2 hG2)
    | (go_at_call 98; (with_reducible refine fN.mono ?_); rintro e w3 ⟨a3, c3, rfl, hT3, hb3⟩; have HT3 := Lib.hid hT3; have HB3 := Lib.hid hb3; have D3 := Lib.hid (D2.out.later hb3 D2.out.lt); have t0 := D3.out.cell 0 _ rfl; have t1 := D3.out.cell 1 _ rfl; have t2 := D3.out.cell 2 _ rfl; have g0 := D3.out.frozen 0; have g1 := D3.out.frozen 1; have g2 := D3.out.frozen 2; clear hT3 hb3))
  have F := setAll_blkE [.int .i64 3, .int .i64 0, .slice a3 1 c3] 0 _ _ D3.out
  have r0 := F.cell 0 _ rfl
  have r1 := F.cell 1 _ rfl
  have r2 := F.cell 2 _ rfl
  change bodyPost _ _ _ _ _ (setAllE w3 (w.heap.size + 1) 0 [.int .i64 3, .int .i64 0, .slice a3 1 c3])
  refine bodyPost_ret (v := .agg #[.int .i64 3, .int .i64 0, .slice a3 1 c3]) (by simp [results, Tryz.results62, go_sem, r0, r1, r2]) rfl ?_
  exact term_ret (r := (tmNot t, st2)) HB1.out (Nat.le_succ _) HT3.out (HP2.out.later HB3.out) (HG2.out.trans (PG.of_below HB3.out)) (grown_set3 _ _ _ _ _) _ rfl
set_option maxRecDepth 100000 in
set_option maxHeartbeats 4000000 in
theorem pterm_else {d p base : Nat} {N : NmV} {nm : Nm} (hL : ListC d p base N nm) (kind ns : Int) (pre name : ByteArray) (op : Int) (text : ByteArray) (fold : Bool) (mark fa fb : Int) (x : Lx d) {w : World} {st : PenS} {V : PV} {X : List (Option Nat)} {a : Option Addr} {n c : Nat} (h : PenAt w p base N nm st V X) (hx : RdL (· < p) d w a n c x) (ht : st.tot + 4 + cntL d x ≤ 1000000) (h1 : kind ≠ 1) (h2 : kind ≠ 2) (h3 : kind ≠ 3) (h4 : kind ≠ 4) (h5 : kind ≠ 5) (h11 : kind ≠ 11) (h6 : kind ≠ 6) (h8 : kind ≠ 8) (h9 : kind ≠ 9) (h10 : kind ≠ 10) (h7 : kind ≠ 7) (h12 : kind ≠ 12) :
    Calls Tryz.prog 62 #[.pointer (some ⟨p, 0, none⟩), sval ⟨kind, ns, pre, name, op, text, fold, mark, fa, fb⟩ a n c] w (TermP 5 p base N nm X (penTerm (penL nm d) nm st (⟨kind, ns, pre, name, op, text, fold, mark, fa, fb⟩, x)) V w) := by
  have hb0 := (Below.refl w.heap.size w).alloc (Nat.le_refl _) (.cells #[.int .i64 kind, .int .i64 ns, .string pre, .string name, .int .i64 op, .string text, .bool fold, .int .i64 mark, .int .i64 fa, .int .i64 fb, .slice a n c] 118)
  have hb1 := hb0.alloc hb0.size (.cells #[.int .i64 0, .int .i64 0, .slice none 0 0] 110)
  have HB1 := Lib.hid hb1
  have HP1 := Lib.hid (h.fresh hb1 (Nat.le_succ _) (by simp))
  have DS := Lib.hid (show Blk ((w.alloc (.cells #[.int .i64 kind, .int .i64 ns, .string pre, .string name, .int .i64 op, .string text, .bool fold, .int .i64 mark, .int .i64 fa, .int .i64 fb, .slice a n c] 118)).alloc (.cells #[.int .i64 0, .int .i64 0, .slice none 0 0] 110)) w.heap.size [.int .i64 kind, .int .i64 ns, .string pre, .string name, .int .i64 op, .string text, .bool fold, .int .i64 mark, .int .i64 fa, .int .i64 fb, .slice a n c] 118 from (Blk.alloc [.int .i64 kind, .int .i64 ns, .string pre, .string name, .int .i64 op, .string text, .bool fold, .int .i64 mark, .int .i64 fa, .int .i64 fb, .slice a n c] _).alloc_old _)
  have D1 := Lib.hid (show Blk ((w.alloc (.cells #[.int .i64 kind, .int .i64 ns, .string pre, .string name, .int .i64 op, .string text, .bool fold, .int .i64 mark, .int .i64 fa, .int .i64 fb, .slice a n c] 118)).alloc (.cells #[.int .i64 0, .int .i64 0, .slice none 0 0] 110)) (w.heap.size + 1) [.int .i64 0, .int .i64 0, .slice none 0 0] 110 from by
    have hh : Blk ((w.alloc (.cells #[.int .i64 kind, .int .i64 ns, .string pre, .string name, .int .i64 op, .string text, .bool fold, .int .i64 mark, .int .i64 fa, .int .i64 fb, .slice a n c] 118)).alloc (.cells #[.int .i64 0, .int .i64 0, .slice none 0 0] 110)) (w.alloc (.cells #[.int .i64 kind, .int .i64 ns, .string pre, .string name, .int .i64 op, .string text, .bool fold, .int .i64 mark, .int .i64 fa, .int .i64 fb, .slice a n c] 118)).heap.size [.int .i64 0, .int .i64 0, .slice none 0 0] 110 := Blk.alloc [.int .i64 0, .int .i64 0, .slice none 0 0] _
    rwa [show (w.alloc (.cells #[.int .i64 kind, .int .i64 ns, .string pre, .string name, .int .i64 op, .string text, .bool fold, .int .i64 mark, .int .i64 fa, .int .i64 fb, .slice a n c] 118)).heap.size = w.heap.size + 1 from by simp] at hh)
  have HX1 := Lib.hid (RdL.move (w' := (w.alloc (.cells #[.int .i64 kind, .int .i64 ns, .string pre, .string name, .int .i64 op, .string text, .bool fold, .int .i64 mark, .int .i64 fa, .int .i64 fb, .slice a n c] 118)).alloc (.cells #[.int .i64 0, .int .i64 0, .slice none 0 0] 110)) (fun b hb => ⟨hb, hb1.block b (Nat.lt_trans hb h.blk.lt)⟩) hx)
  have s0 := DS.out.cell 0 _ rfl
  have s1 := DS.out.cell 1 _ rfl
  have s2 := DS.out.cell 2 _ rfl
  have s3 := DS.out.cell 3 _ rfl
  have s4 := DS.out.cell 4 _ rfl
  have s5 := DS.out.cell 5 _ rfl
  have s6 := DS.out.cell 6 _ rfl
  have s7 := DS.out.cell 7 _ rfl
  have s8 := DS.out.cell 8 _ rfl
  have s9 := DS.out.cell 9 _ rfl
  have s10 := DS.out.cell 10 _ rfl
  have HH := Lib.hid h
  have HTT := Lib.hid ht
  have HL := Lib.hid hL
  unfold sval
  dsimp only
  have q1 : (kind == 1) = false := beq_eq_false_iff_ne.2 h1
  have q2 : (kind == 2) = false := beq_eq_false_iff_ne.2 h2
  have q3 : (kind == 3) = false := beq_eq_false_iff_ne.2 h3
  have q4 : (kind == 4) = false := beq_eq_false_iff_ne.2 h4
  have q5 : (kind == 5) = false := beq_eq_false_iff_ne.2 h5
  have q11 : (kind == 11) = false := beq_eq_false_iff_ne.2 h11
  have q6 : (kind == 6) = false := beq_eq_false_iff_ne.2 h6
  have q8 : (kind == 8) = false := beq_eq_false_iff_ne.2 h8
  have q9 : (kind == 9) = false := beq_eq_false_iff_ne.2 h9
  have q10 : (kind == 10) = false := beq_eq_false_iff_ne.2 h10
  have q7 : (kind == 7) = false := beq_eq_false_iff_ne.2 h7
  have q12 : (kind == 12) = false := beq_eq_false_iff_ne.2 h12
  have he : penTerm (penL nm d) nm st (⟨kind, ns, pre, name, op, text, fold, mark, fa, fb⟩, x) = (.mk 7 0 [], st) := by
    unfold penTerm
    simp only [h1, h2, h3, h4, h5, h11, h6, h8, h9, h10, h7, h12, if_false, or_self]
  rw [he]
  have t0 := D1.out.cell 0 _ rfl
  have t1 := D1.out.cell 1 _ rfl
  have t2 := D1.out.cell 2 _ rfl
  have g0 := D1.out.frozen 0
  have g1 := D1.out.frozen 1
  have g2 := D1.out.frozen 2
  clear h hx ht hb0 hb1 hL he
  go_enter Tryz.func62, Tryz.ntmps62
  go_wp2
  have hbF := ((Below.refl w.heap.size w).alloc (Nat.le_refl _) (.cells #[.int .i64 kind, .int .i64 ns, .string pre, .string name, .int .i64 op, .string text, .bool fold, .int .i64 mark, .int .i64 fa, .int .i64 fb, .slice a n c] 118)).alloc (by simp) (.cells #[.int .i64 7, .int .i64 0, .slice none 0 0] 110)
  have E1 : Blk ((w.alloc (.cells #[.int .i64 kind, .int .i64 ns, .string pre, .string name, .int .i64 op, .string text, .bool fold, .int .i64 mark, .int .i64 fa, .int .i64 fb, .slice a n c] 118)).alloc (.cells #[.int .i64 7, .int .i64 0, .slice none 0 0] 110)) (w.heap.size + 1) [.int .i64 7, .int .i64 0, .slice none 0 0] 110 := by
    have hh : Blk ((w.alloc (.cells #[.int .i64 kind, .int .i64 ns, .string pre, .string name, .int .i64 op, .string text, .bool fold, .int .i64 mark, .int .i64 fa, .int .i64 fb, .slice a n c] 118)).alloc (.cells #[.int .i64 7, .int .i64 0, .slice none 0 0] 110)) (w.alloc (.cells #[.int .i64 kind, .int .i64 ns, .string pre, .string name, .int .i64 op, .string text, .bool fold, .int .i64 mark, .int .i64 fa, .int .i64 fb, .slice a n c] 118)).heap.size [.int .i64 7, .int .i64 0, .slice none 0 0] 110 := Blk.alloc [.int .i64 7, .int .i64 0, .slice none 0 0] _
    rwa [show (w.alloc (.cells #[.int .i64 kind, .int .i64 ns, .string pre, .string name, .int .i64 op, .string text, .bool fold, .int .i64 mark, .int .i64 fa, .int .i64 fb, .slice a n c] 118)).heap.size = w.heap.size + 1 from by simp] at hh
  have r0 := E1.cell 0 _ rfl
  have r1 := E1.cell 1 _ rfl
  have r2 := E1.cell 2 _ rfl
  exact bodyPost_ret (v := .agg #[.int .i64 7, .int .i64 0, .slice none 0 0]) (by simp [results, Tryz.results62, go_sem, r0, r1, r2]) rfl (term_leaf (w1 := w) (g := 0) HH.out hbF _ rfl)
end
end Go.Proofs.YtcfhggdiccilaaaGreat
