/- Texts of mine in one: Fp9. -/
import Derived.Test.YtcfhggdiccilaaaGreatQ33
import Derived.Test.YtcfhggdiccilaaaGreatQ34
namespace Go.Proofs.YtcfhggdiccilaaaGreat
section
open Go.RowKit
set_option linter.unusedVariables false
set_option linter.unusedSimpArgs false
theorem TryzinfoCtr : (Tryz.prog.info? 62).map (fun i => (i.zero, i.size, i.bytes)) = some (some (.agg #[.int .i64 0, .int .i64 0, .slice none 0 0]), 3, 40) := by kernel_rfl
set_option maxRecDepth 100000 in
set_option maxHeartbeats 4000000 in
theorem pterm_7 {d p base : Nat} {N : NmV} {nm : Nm} (hL : ListC d p base N nm) (ns : Int) (pre name : ByteArray) (op : Int) (text : ByteArray) (fold : Bool) (mark fa fb : Int) (x : Lx d) {w : World} {st : PenS} {V : PV} {X : List (Option Nat)} {a : Option Addr} {n c : Nat} (h : PenAt w p base N nm st V X) (hx : RdL (· < p) d w a n c x) (ht : st.tot + 4 + cntL d x ≤ 1000000) :
    Calls Tryz.prog 62 #[.pointer (some ⟨p, 0, none⟩), sval ⟨7, ns, pre, name, op, text, fold, mark, fa, fb⟩ a n c] w (TermP 5 p base N nm X (penTerm (penL nm d) nm st (⟨7, ns, pre, name, op, text, fold, mark, fa, fb⟩, x)) V w) := by
  have hb0 := (Below.refl w.heap.size w).alloc (Nat.le_refl _) (.cells #[.int .i64 7, .int .i64 ns, .string pre, .string name, .int .i64 op, .string text, .bool fold, .int .i64 mark, .int .i64 fa, .int .i64 fb, .slice a n c] 118)
  have hb1 := hb0.alloc hb0.size (.cells #[.int .i64 0, .int .i64 0, .slice none 0 0] 110)
  have HB1 := Lib.hid hb1
  have HP1 := Lib.hid (h.fresh hb1 (Nat.le_succ _) (by simp))
  have DS := Lib.hid (show Blk ((w.alloc (.cells #[.int .i64 7, .int .i64 ns, .string pre, .string name, .int .i64 op, .string text, .bool fold, .int .i64 mark, .int .i64 fa, .int .i64 fb, .slice a n c] 118)).alloc (.cells #[.int .i64 0, .int .i64 0, .slice none 0 0] 110)) w.heap.size [.int .i64 7, .int .i64 ns, .string pre, .string name, .int .i64 op, .string text, .bool fold, .int .i64 mark, .int .i64 fa, .int .i64 fb, .slice a n c] 118 from (Blk.alloc [.int .i64 7, .int .i64 ns, .string pre, .string name, .int .i64 op, .string text, .bool fold, .int .i64 mark, .int .i64 fa, .int .i64 fb, .slice a n c] _).alloc_old _)
  have D1 := Lib.hid (show Blk ((w.alloc (.cells #[.int .i64 7, .int .i64 ns, .string pre, .string name, .int .i64 op, .string text, .bool fold, .int .i64 mark, .int .i64 fa, .int .i64 fb, .slice a n c] 118)).alloc (.cells #[.int .i64 0, .int .i64 0, .slice none 0 0] 110)) (w.heap.size + 1) [.int .i64 0, .int .i64 0, .slice none 0 0] 110 from by
    have hh : Blk ((w.alloc (.cells #[.int .i64 7, .int .i64 ns, .string pre, .string name, .int .i64 op, .string text, .bool fold, .int .i64 mark, .int .i64 fa, .int .i64 fb, .slice a n c] 118)).alloc (.cells #[.int .i64 0, .int .i64 0, .slice none 0 0] 110)) (w.alloc (.cells #[.int .i64 7, .int .i64 ns, .string pre, .string name, .int .i64 op, .string text, .bool fold, .int .i64 mark, .int .i64 fa, .int .i64 fb, .slice a n c] 118)).heap.size [.int .i64 0, .int .i64 0, .slice none 0 0] 110 := Blk.alloc [.int .i64 0, .int .i64 0, .slice none 0 0] _
    rwa [show (w.alloc (.cells #[.int .i64 7, .int .i64 ns, .string pre, .string name, .int .i64 op, .string text, .bool fold, .int .i64 mark, .int .i64 fa, .int .i64 fb, .slice a n c] 118)).heap.size = w.heap.size + 1 from by simp] at hh)
  have HX1 := Lib.hid (RdL.move (w' := (w.alloc (.cells #[.int .i64 7, .int .i64 ns, .string pre, .string name, .int .i64 op, .string text, .bool fold, .int .i64 mark, .int .i64 fa, .int .i64 fb, .slice a n c] 118)).alloc (.cells #[.int .i64 0, .int .i64 0, .slice none 0 0] 110)) (fun b hb => ⟨hb, hb1.block b (Nat.lt_trans hb h.blk.lt)⟩) hx)
  have s0 := DS.out.cell 0 _ rfl
  have s1 := DS.out.cell 1 _ rfl
  have s2 := DS.out.cell 2 _ rfl
  have s3 := DS.out.cell 3 _ rfl
  have s4 := DS.out.cell 4 _ rfl
  have s5 := DS.out.cell 5 _ rfl
  have s6 := DS.out.cell 6 _ rfl
  have s7 := DS.out.cell 7 _ rfl
  have s8 := DS.out.cell 8 _ rfl
  have s9 := DS.out.cell 9 _ rfl
  have s10 := DS.out.cell 10 _ rfl
  have HH := Lib.hid h
  have HTT := Lib.hid ht
  have HL := Lib.hid hL
  unfold sval
  dsimp only
  have HPLT := Lib.hid (show p < w.heap.size from h.blk.lt)
  have HSZ1 := Lib.hid (show ((w.alloc (.cells #[.int .i64 7, .int .i64 ns, .string pre, .string name, .int .i64 op, .string text, .bool fold, .int .i64 mark, .int .i64 fa, .int .i64 fb, .slice a n c] 118)).alloc (.cells #[.int .i64 0, .int .i64 0, .slice none 0 0] 110)).heap.size = w.heap.size + 2 from by simp)
  rw [show penTerm (penL nm d) nm st (⟨7, ns, pre, name, op, text, fold, mark, fa, fb⟩, x) = (.mk 5 (penL nm d x st).2.ctrs.length [], { (penL nm d x st).2 with ctrs := (penL nm d x st).2.ctrs ++ [⟨fa, fb, (penL nm d x st).1⟩] }) from rfl]
  obtain ⟨w0, hw0⟩ : ∃ w0, ((w.alloc (.cells #[.int .i64 7, .int .i64 ns, .string pre, .string name, .int .i64 op, .string text, .bool fold, .int .i64 mark, .int .i64 fa, .int .i64 fb, .slice a n c] 118)).alloc (.cells #[.int .i64 0, .int .i64 0, .slice none 0 0] 110)) = w0 := ⟨_, rfl⟩
  rw [hw0] at HB1 HP1 DS D1 HX1 HSZ1
  rw [hw0] at s0
  rw [hw0] at s1
  rw [hw0] at s2
  rw [hw0] at s3
  rw [hw0] at s4
  rw [hw0] at s5
  rw [hw0] at s6
  rw [hw0] at s7
  rw [hw0] at s8
  rw [hw0] at s9
  rw [hw0] at s10
  have fE := fun (wx : World) (Y : List (Option Nat)) (hb : Below w0.heap.size w0 wx) (hP : PenAt wx p base N nm st V Y) => HL.out x wx st V Y a n c hP (RdL.move (fun b hb' => ⟨hb', hb.block b (Nat.lt_of_lt_of_le (Nat.lt_trans hb' HPLT.out) HB1.out.size)⟩) HX1.out) (by have := HTT.out; omega)
  have HTOT := Lib.hid (show (penL nm d x st).2.tot ≤ 1000000 from by have := penL_tot nm d x st; omega)
  obtain ⟨iC, hiC, hzC⟩ := Option.map_eq_some_iff.1 TryzinfoCtr
  simp only [Prod.mk.injEq] at hzC
  have HIC := Lib.hid (And.intro hiC hzC)
  clear hiC hzC
  generalize penL nm d x st = r at *
  obtain ⟨rs, st2⟩ := r
  dsimp only
  clear h hx ht hb0 hb1 hL
  go_enter Tryz.func62, Tryz.ntmps62
  go_wp2
  clear hw0
  have e8 : w0.drew.cell? ⟨w.heap.size, 8, none⟩ = some (.int .i64 fa) := s8
  have e9 : w0.drew.cell? ⟨w.heap.size, 9, none⟩ = some (.int .i64 fb) := s9
  have e10 : w0.drew.cell? ⟨w.heap.size, 10, none⟩ = some (.slice a n c) := s10
  have HBD := Lib.hid (show Below w0.heap.size w0 w0.drew from (Below.refl _ _).drew)
  have HPD := Lib.hid (HP1.out.later HBD.out)
  have DD1 := Lib.hid (show Blk w0.drew (w.heap.size + 1) _ _ from D1.out)
  have hbe := ((Below.refl w0.heap.size w0).alloc (Nat.le_refl _) (.cells #[.int .i64 0, .int .i64 0, .slice none 0 0] 62)).drew
  have HBE := Lib.hid hbe
  have HPE := Lib.hid (HP1.out.fresh (g := w0.heap.size) hbe (Nat.le_refl _) (by show _ < (w0.alloc (.cells #[.int .i64 0, .int .i64 0, .slice none 0 0] 62)).heap.size; simp))
  have DE1 := Lib.hid (show Blk (w0.alloc (.cells #[.int .i64 0, .int .i64 0, .slice none 0 0] 62)).drew (w.heap.size + 1) _ _ from D1.out.alloc_old (.cells #[.int .i64 0, .int .i64 0, .slice none 0 0] 62))
  have DEC := Lib.hid (show Blk (w0.alloc (.cells #[.int .i64 0, .int .i64 0, .slice none 0 0] 62)).drew w0.heap.size [.int .i64 0, .int .i64 0, .slice none 0 0] 62 from Blk.alloc (w := w0) [.int .i64 0, .int .i64 0, .slice none 0 0] _)
  have DSE := DS.out.alloc_old (.cells #[.int .i64 0, .int .i64 0, .slice none 0 0] 62)
  have q8 : (w0.alloc (.cells #[.int .i64 0, .int .i64 0, .slice none 0 0] 62)).drew.cell? ⟨w.heap.size, 8, none⟩ = some (.int .i64 fa) := DSE.cell 8 _ rfl
  have q9 : (w0.alloc (.cells #[.int .i64 0, .int .i64 0, .slice none 0 0] 62)).drew.cell? ⟨w.heap.size, 9, none⟩ = some (.int .i64 fb) := DSE.cell 9 _ rfl
  have q10 : (w0.alloc (.cells #[.int .i64 0, .int .i64 0, .slice none 0 0] 62)).drew.cell? ⟨w.heap.size, 10, none⟩ = some (.slice a n c) := DSE.cell 10 _ rfl
  have q8' : (w0.alloc (.cells #[.int .i64 0, .int .i64 0, .slice none 0 0] 62)).cell? ⟨w.heap.size, 8, none⟩ = some (.int .i64 fa) := q8
  have q9' : (w0.alloc (.cells #[.int .i64 0, .int .i64 0, .slice none 0 0] 62)).cell? ⟨w.heap.size, 9, none⟩ = some (.int .i64 fb) := q9
  have q10' : (w0.alloc (.cells #[.int .i64 0, .int .i64 0, .slice none 0 0] 62)).cell? ⟨w.heap.size, 10, none⟩ = some (.slice a n c) := q10
  clear hbe DSE
  go_region_held3 (fun w' => w'.cell? ⟨w.heap.size, 8, none⟩ = some (.int .i64 fa) ∧ w'.cell? ⟨w.heap.size, 9, none⟩ = some (.int .i64 fb) ∧ w'.cell? ⟨w.heap.size, 10, none⟩ = some (.slice a n c)) (first | exact ⟨e8, e9, e10⟩ | exact ⟨q8, q9, q10⟩ | exact ⟨x8, x9, x10⟩ | exact ⟨xa8 _, xa9 _, xa10 _⟩ | exact ⟨xs8 _ _ _, xs9 _ _ _, xs10 _ _ _⟩ | exact ⟨xt8 _, xt9 _, xt10 _⟩ | exact ⟨xu8 _ _, xu9 _ _, xu10 _ _⟩) (first
    | (go_at_call 26; (with_reducible refine (fE w0.drew _ HBD.out HPD.out).mono ?_); rintro e w2 ⟨V2, ra, rc, rfl, hR2, hn2, hP2, hG2⟩; have HR2 := Lib.hid hR2; have HN2 := Lib.hid hn2; have HP2 := Lib.hid hP2; have HG2 := Lib.hid hG2; have D2 := Lib.hid (Blk.pg HPD.out (by simp) hG2 DD1.out); have DS2 := Lib.hid (show Blk w2 w.heap.size _ _ from (hG2.block w.heap.size (by have := HSZ1.out; show _ < w0.heap.size; omega) (by have := HPLT.out; omega) (fun hm => by have := (PV.own_lt HH.out hm).2; omega)).trans DS.out); have x8 := DS2.out.cell 8 _ rfl; have x9 := DS2.out.cell 9 _ rfl; have x10 := DS2.out.cell 10 _ rfl; have xa8 := fun (o : Obj) => (DS2.out.alloc_old o).cell 8 _ rfl; have xa9 := fun (o : Obj) => (DS2.out.alloc_old o).cell 9 _ rfl; have xa10 := fun (o : Obj) => (DS2.out.alloc_old o).cell 10 _ rfl; have KK := Lib.hid True.intro; clear hR2 hn2 hP2 hG2)
    | (go_at_call 26; (with_reducible refine (fE (w0.alloc (.cells #[.int .i64 0, .int .i64 0, .slice none 0 0] 62)).drew _ HBE.out HPE.out).mono ?_); rintro e w2 ⟨V2, ra, rc, rfl, hR2, hn2, hP2, hG2⟩; have HR2 := Lib.hid hR2; have HN2 := Lib.hid hn2; have HP2 := Lib.hid hP2; have HG2 := Lib.hid hG2; have D2 := Lib.hid (Blk.pg HPE.out (by simp) hG2 DE1.out); have C2 := Lib.hid (Blk.pg HPE.out (by simp) hG2 DEC.out); have DS2 := Lib.hid (show Blk w2 w.heap.size _ _ from (hG2.block w.heap.size (by have := HSZ1.out; show _ < (w0.alloc (.cells #[.int .i64 0, .int .i64 0, .slice none 0 0] 62)).heap.size; simp; omega) (by have := HPLT.out; omega) (fun hm => by have := (PV.own_lt HH.out hm).2; omega)).trans (DS.out.alloc_old (.cells #[.int .i64 0, .int .i64 0, .slice none 0 0] 62))); have x8 := DS2.out.cell 8 _ rfl; have x9 := DS2.out.cell 9 _ rfl; have x10 := DS2.out.cell 10 _ rfl; have k0 := C2.out.cell 0 _ rfl; have k1 := C2.out.cell 1 _ rfl; have k2 := C2.out.cell 2 _ rfl; have l0 := C2.out.frozen 0; have l1 := C2.out.frozen 1; have l2 := C2.out.frozen 2; have HSN := Lib.hid (show w0.heap.size ≠ w.heap.size from by have := HSZ1.out; omega); have DT := fun v0 => DS2.out.kept (grown_setCell w2 w0.heap.size 0 v0) (fun hh => HSN.out (Option.some.inj hh)); have DU := fun v0 v1 => (DT v0).kept (grown_setCell _ w0.heap.size 1 v1) (fun hh => HSN.out (Option.some.inj hh)); have DW := fun v0 v1 v2 => (DU v0 v1).kept (grown_setCell _ w0.heap.size 2 v2) (fun hh => HSN.out (Option.some.inj hh)); have xt8 := fun v0 => (DT v0).cell 8 _ rfl; have xt9 := fun v0 => (DT v0).cell 9 _ rfl; have xt10 := fun v0 => (DT v0).cell 10 _ rfl; have xu8 := fun v0 v1 => (DU v0 v1).cell 8 _ rfl; have xu9 := fun v0 v1 => (DU v0 v1).cell 9 _ rfl; have xu10 := fun v0 v1 => (DU v0 v1).cell 10 _ rfl; have xs8 := fun v0 v1 v2 => (DW v0 v1 v2).cell 8 _ rfl; have xs9 := fun v0 v1 v2 => (DW v0 v1 v2).cell 9 _ rfl; have xs10 := fun v0 v1 v2 => (DW v0 v1 v2).cell 10 _ rfl; clear hR2 hn2 hP2 hG2))
  all_goals
    (first
      | (have hbA3 := (Below.refl w2.heap.size w2).alloc (Nat.le_refl _) (.cells #[.int .i64 fa, .int .i64 fb, .slice ra rs.length rc] 62)
         have P3 := Lib.hid (HP2.out.later hbA3)
         have G3 := Lib.hid (((PG.of_below HBD.out).trans HG2.out).trans (PG.of_below hbA3))
         have D3 := Lib.hid (D2.out.alloc_old (.cells #[.int .i64 fa, .int .i64 fb, .slice ra rs.length rc] 62))
         have C3 := Lib.hid (show Blk (w2.alloc (.cells #[.int .i64 fa, .int .i64 fb, .slice ra rs.length rc] 62)) w2.heap.size [.int .i64 fa, .int .i64 fb, .slice ra rs.length rc] 62 from Blk.alloc [.int .i64 fa, .int .i64 fb, .slice ra rs.length rc] _)
         have R3 := Lib.hid (RCt_moves _ (okE base (w2.alloc (.cells #[.int .i64 fa, .int .i64 fb, .slice ra rs.length rc] 62)) (V2.own ++ some (w.heap.size + 1) :: X)) _ (w2.alloc (.cells #[.int .i64 fa, .int .i64 fb, .slice ra rs.length rc] 62)) _ _ _ ⟨fa, fb, rs⟩ (fun b hb => ⟨⟨hb.1, Nat.lt_of_lt_of_le hb.2.1 hbA3.size, hb.2.2⟩, hbA3.block b hb.2.1⟩) HR2.out)
         generalize hw3 : w2.alloc (.cells #[.int .i64 fa, .int .i64 fb, .slice ra rs.length rc] 62) = w3 at P3 G3 D3 C3 R3 ⊢
         generalize hcb : w2.heap.size = cb at C3 ⊢)
      | (have hgr := grown_set3 w2 w0.heap.size (.int .i64 fa) (.int .i64 fb) (.slice ra rs.length rc)
         have P3 := Lib.hid (HP2.out.write hgr).drop
         have G3 := Lib.hid (((PG.of_below HBE.out).trans HG2.out).new hgr (fun g e => by have := Option.some.inj e; omega))
         have D3 := Lib.hid (D2.out.kept hgr (fun hh => by have := Option.some.inj hh; have := HSZ1.out; omega))
         have C3 := Lib.hid (setAll_blkE [.int .i64 fa, .int .i64 fb, .slice ra rs.length rc] 0 _ _ C2.out)
         have R3 := Lib.hid (RCt_moves _ (okE base (setAllE w2 w0.heap.size 0 [.int .i64 fa, .int .i64 fb, .slice ra rs.length rc]) (V2.own ++ some (w.heap.size + 1) :: X)) _ (setAllE w2 w0.heap.size 0 [.int .i64 fa, .int .i64 fb, .slice ra rs.length rc]) _ _ _ ⟨fa, fb, rs⟩ (fun b hb => okE_drop hgr hb) HR2.out)
         change Exit.then _ _ _ _ (setAllE w2 w0.heap.size 0 [.int .i64 fa, .int .i64 fb, .slice ra rs.length rc])
         generalize hw3 : setAllE w2 w0.heap.size 0 [.int .i64 fa, .int .i64 fb, .slice ra rs.length rc] = w3 at P3 G3 D3 C3 R3 ⊢
         generalize hcb : w0.heap.size = cb at C3 ⊢))
    obtain ⟨va, vca, hvc⟩ : ∃ va vca, V2.vc = .slice va st2.ctrs.length vca := by
      obtain ⟨_, _, hh, _⟩ := P3.out.ctrs
      exact own_shape hh
    obtain ⟨m, hm⟩ : ∃ m, st2.ctrs.length = m := ⟨_, rfl⟩
    have hml : m ≤ 1000000 := by have := HTOT.out; unfold PenS.tot at this; omega
    rw [hm] at hvc
    have HVC := Lib.hid hvc
    have HM := Lib.hid hm
    have p6 := P3.out.blk.cell 6 _ rfl
    rw [hvc] at p6
    have c0 := C3.out.cell 0 _ rfl
    have c1 := C3.out.cell 1 _ rfl
    have c2 := C3.out.cell 2 _ rfl
    have dc0 : w3.drew.cell? ⟨cb, 0, none⟩ = _ := c0
    have dc1 : w3.drew.cell? ⟨cb, 1, none⟩ = _ := c1
    have dc2 : w3.drew.cell? ⟨cb, 2, none⟩ = _ := c2
    have dp6 : w3.drew.cell? ⟨p, 6, none⟩ = _ := p6
    have hbW := ((Below.refl w3.heap.size w3).alloc (Nat.le_refl _) (.cells #[.int .i64 fa, .int .i64 fb, .slice ra rs.length rc] 62)).drew
    have HPq := Lib.hid (P3.out.later hbW)
    have HBW := Lib.hid hbW
    have p6q : (w3.alloc (.cells #[.int .i64 fa, .int .i64 fb, .slice ra rs.length rc] 62)).cell? ⟨p, 6, none⟩ = _ := HPq.out.blk.cell 6 _ rfl
    rw [hvc] at p6q
    obtain ⟨ys, hy1, hy2, hy3⟩ := HPq.out.ctrs
    rw [hvc, hm] at hy2
    have HY1 := Lib.hid hy1
    have HY2 := Lib.hid hy2
    have HY3 := Lib.hid hy3
    have RQ := Lib.hid (RCt_moves _ (okE base (w3.alloc (.cells #[.int .i64 fa, .int .i64 fb, .slice ra rs.length rc] 62)).drew (V2.own ++ some (w.heap.size + 1) :: X)) _ (w3.alloc (.cells #[.int .i64 fa, .int .i64 fb, .slice ra rs.length rc] 62)).drew _ _ _ ⟨fa, fb, rs⟩ (fun b hb => ⟨⟨hb.1, Nat.lt_of_lt_of_le hb.2.1 hbW.size, hb.2.2⟩, hbW.block b hb.2.1⟩) R3.out)
    have DQ := Lib.hid (show Blk (w3.alloc (.cells #[.int .i64 fa, .int .i64 fb, .slice ra rs.length rc] 62)).drew (w.heap.size + 1) _ _ from D3.out.alloc_old (.cells #[.int .i64 fa, .int .i64 fb, .slice ra rs.length rc] 62))
    have CQ := Lib.hid (show Blk (w3.alloc (.cells #[.int .i64 fa, .int .i64 fb, .slice ra rs.length rc] 62)).drew w3.heap.size [.int .i64 fa, .int .i64 fb, .slice ra rs.length rc] 62 from Blk.alloc (w := w3) [.int .i64 fa, .int .i64 fb, .slice ra rs.length rc] _)
    have HOB := Lib.hid (fun g (hg : (Value.slice va m vca).ownBlock = some g) => (show base ≤ g ∧ some g ∈ V2.own from ⟨(owns_own HY2.out hg).1, by simp [PV.own, HVC.out, hg]⟩))
    clear hvc hm hbW hy1 hy2 hy3 p6 c0 c1 c2
    go_wp2
    go_region_law (first
      | (refine step_append_row2 rfl _ _ 34 rfl base 62 iC _ 3 40 Tryz.underlying34 HIC.out.1 HIC.out.2.1 rfl (by decide) HIC.out.2.2.1 HIC.out.2.2.2 (.slice va m vca) m _ rfl w3.heap.size 0 1 (ctCells ⟨fa, fb, rs⟩ ra rs.length rc) rfl rfl (by intro u hu; simp only [ctCells, List.mem_cons, List.not_mem_nil, or_false] at hu; rcases hu with rfl | rfl | rfl <;> rfl) (by unfold maxLen; omega) (by omega) HY2.out (fun k u hu => by rw [Nat.zero_add]; exact CQ.out.cell k u hu) HPq.out.bw ?_
         intro v8 w8 hown8 hgr8 hv8
         obtain ⟨a8, c8, rfl⟩ := own_shape hown8
         have D18 := Lib.hid (DQ.out.kept hgr8 (fun hh => dist_mem HPq.out.dist (HOB.out _ hh).2 (by simp)))
         have P8 := HPq.out.blk.kept hgr8 (fun hh => by have := (HOB.out _ hh).1; have := HPq.out.pb; omega)
         have P8c := P8.cell 6 _ rfl
         have P8f := P8.frozen 6
         have HA := Lib.hid (PenAt.ctr (x := ⟨fa, fb, rs⟩) HPq.out HY1.out HY3.out RQ.out (by rw [HM.out]; exact hown8) (by rw [HVC.out]; exact hgr8) (by rw [HVC.out]; exact hv8))
         have P9c := HA.out.1.blk.cell 6 _ rfl
         have D19 := Lib.hid (D18.out.kept (grown_setCell w8 p 6 (.slice a8 (m + 1) c8)) (fun hh => by have := Option.some.inj hh; have := HPLT.out; omega))
         have t0 := D19.out.cell 0 _ rfl
         have t1 := D19.out.cell 1 _ rfl
         have t2 := D19.out.cell 2 _ rfl
         have g0 := D19.out.frozen 0
         have g1 := D19.out.frozen 1
         have g2 := D19.out.frozen 2
         clear hown8 hgr8 hv8 P8))
    all_goals
      go_wp2
      have F := setAll_blkE [.int .i64 5, .int .i64 (m : Nat), .slice none 0 0] 0 _ _ D19.out
      have r0 := F.cell 0 _ rfl
      have r1 := F.cell 1 _ rfl
      have r2 := F.cell 2 _ rfl
      change bodyPost _ _ _ _ _ (setAllE (w8.setCell ⟨p, 6, none⟩ (.slice a8 (m + 1) c8)) (w.heap.size + 1) 0 [.int .i64 5, .int .i64 (m : Nat), .slice none 0 0])
      refine bodyPost_ret (v := .agg #[.int .i64 5, .int .i64 (m : Nat), .slice none 0 0]) (by simp [results, Tryz.results62, go_sem, r0, r1, r2]) rfl ?_
      rw [HM.out]
      have hgF := grown_set3 (w8.setCell ⟨p, 6, none⟩ (.slice a8 (m + 1) c8)) (w.heap.size + 1) (.int .i64 5) (.int .i64 (m : Nat)) (.slice none 0 0)
      exact ⟨_, none, 0, 0, rfl, TmsAt.nil _ _ _, (HA.out.1.write hgF).drop, ((((PG.of_below HB1.out).trans G3.out).trans (PG.of_below HBW.out)).trans HA.out.2).new hgF (fun g e => by have := Option.some.inj e; omega)⟩
end
end Go.Proofs.YtcfhggdiccilaaaGreat
