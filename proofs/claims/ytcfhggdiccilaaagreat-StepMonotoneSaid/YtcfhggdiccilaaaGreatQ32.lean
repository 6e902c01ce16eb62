/- Texts of mine in one: Fp6 Fp7. -/
import Derived.Test.YtcfhggdiccilaaaGreatQ31
namespace Go.Proofs.YtcfhggdiccilaaaGreat
section
open Go.RowKit
set_option linter.unusedVariables false
set_option linter.unusedSimpArgs false
theorem isEmptyS (s : ByteArray) : s.toList.isEmpty = decide (s = ⟨#[]⟩) := by
  rw [ByteArray.toList_eq, Bool.eq_iff_iff, List.isEmpty_iff, decide_eq_true_iff]
  constructor
  · intro h
    cases s with
    | mk d => have : d = #[] := by simpa using h
              rw [this]
  · intro h; rw [h]
theorem Blk.pg {w w' : World} {p base g : Nat} {N : NmV} {nm : Nm} {st : PenS} {V V' : PV} {X : List (Option Nat)} {cs : List Value} {T : TypeId} (hP : PenAt w p base N nm st V X) (hX : some g ∈ X) (hg : PG w w' p V V') (h : Blk w g cs T) : Blk w' g cs T := by
  have hx := hP.xs g hX
  have hp := hP.pb
  exact (hg.block g hx.2 (by omega) (fun hm => dist_mem hP.dist hm hX)).trans h
theorem okE_drop {base : Nat} {w w' : World} {V : PV} {X : List (Option Nat)} {g : Nat} (hg : w.grownBy w' (some g)) {b : Nat} (hb : okE base w (V.own ++ some g :: X) b) : okE base w' (V.own ++ X) b ∧ w'.heap[b]? = w.heap[b]? := by
  obtain ⟨h1, h2, h3⟩ := hb
  simp only [List.mem_append, List.mem_cons, not_or] at h3
  exact ⟨⟨h1, Nat.lt_of_lt_of_le h2 hg.size, by simp only [List.mem_append, not_or]; exact ⟨h3.1, h3.2.2⟩⟩, hg.block b h2 (fun e => h3.2.1 e)⟩
theorem term_ret {w w1 w2 wF : World} {f p base g : Nat} {N : NmV} {nm : Nm} {V V' : PV} {X : List (Option Nat)} {r : Tm × PenS} {a : Option Addr} {n c : Nat}
    (hb : Below w.heap.size w w1) (hgw : w.heap.size ≤ g) (hT : TmsAt f (okE base w2 (V'.own ++ some g :: X)) w2 a n c r.1.subs) (hP : PenAt w2 p base N nm r.2 V' (some g :: X)) (hG : PG w1 w2 p V V') (hF : w2.grownBy wF (some g)) (e : Ending) (he : e = .returned (.agg #[.int .i64 r.1.kind, .int .i64 r.1.num, .slice a n c])) :
    TermP f p base N nm X r V w e wF :=
  ⟨V', a, n, c, he, TmsAt_moves f _ _ _ _ _ _ _ _ (fun b hb => okE_drop hF hb) hT, (hP.write hF).drop, ((PG.of_below hb).trans hG).new hF (fun x e => by have := Option.some.inj e; omega)⟩
theorem term_leaf {w w1 wF : World} {f p base g : Nat} {N : NmV} {nm : Nm} {st : PenS} {V : PV} {X : List (Option Nat)} {k m : Int}
    (h : PenAt w p base N nm st V X) (hb : Below w.heap.size w wF) (e : Ending) (he : e = .returned (.agg #[.int .i64 k, .int .i64 m, .slice none 0 0])) : TermP f p base N nm X (.mk k m [], st) V w e wF :=
  ⟨V, none, 0, 0, he, TmsAt.nil _ _ _, h.later hb, PG.of_below hb⟩
set_option maxRecDepth 100000 in
set_option maxHeartbeats 4000000 in
theorem pplain_any {w : World} {f p base : Nat} {N : NmV} {nm : Nm} {st : PenS} {V : PV} {X : List (Option Nat)} (h : PenAt w p base N nm st V X) (name : ByteArray) (op : Int) (text : ByteArray) (ht : st.tot ≤ 1000000) :
    Calls Tryz.prog 94 #[.pointer (some ⟨p, 0, none⟩), .string name, .int .i64 op, .string text] w (TermP f p base N nm X (penPlain st name op text) V w) := by
  have hbA := (Below.refl w.heap.size w).alloc (Nat.le_refl _) (.cells #[.int .i64 0, .int .i64 0, .slice none 0 0] 110)
  have HBA := Lib.hid hbA
  have HP1 := Lib.hid (h.fresh hbA (Nat.le_refl _) (by simp))
  have D1 := Lib.hid (show Blk (w.alloc (.cells #[.int .i64 0, .int .i64 0, .slice none 0 0] 110)) w.heap.size [.int .i64 0, .int .i64 0, .slice none 0 0] 110 from Blk.alloc [.int .i64 0, .int .i64 0, .slice none 0 0] _)
  have fA := patom_any (f := f) HP1.out ⟨2, true, ⟨#[]⟩, name, op, text, false⟩ ht
  unfold penPlain
  dsimp only at fA
  generalize penAtom st ⟨2, true, ⟨#[]⟩, name, op, text, false⟩ = r at *
  clear h hbA
  go_enter Tryz.func94, Tryz.ntmps94
  go_wp2_with (go_at_call 96; (with_reducible refine fA.mono ?_); rintro e w2 ⟨V2, a2, n2, c2, rfl, hT2, hP2, hG2⟩; have HT2 := Lib.hid hT2; have HP2 := Lib.hid hP2; have HG2 := Lib.hid hG2; have D2 := Lib.hid (Blk.pg HP1.out (by simp) hG2 D1.out); have t0 := D2.out.cell 0 _ rfl; have t1 := D2.out.cell 1 _ rfl; have t2 := D2.out.cell 2 _ rfl; have g0 := D2.out.frozen 0; have g1 := D2.out.frozen 1; have g2 := D2.out.frozen 2; clear hT2 hP2 hG2)
  have F := setAll_blkE [.int .i64 r.1.kind, .int .i64 r.1.num, .slice a2 n2 c2] 0 _ _ D2.out
  have r0 := F.cell 0 _ rfl
  have r1 := F.cell 1 _ rfl
  have r2 := F.cell 2 _ rfl
  change bodyPost _ _ _ _ _ (setAllE w2 w.heap.size 0 [.int .i64 r.1.kind, .int .i64 r.1.num, .slice a2 n2 c2])
  refine bodyPost_ret (v := .agg #[.int .i64 r.1.kind, .int .i64 r.1.num, .slice a2 n2 c2]) (by simp [results, Tryz.results94, go_sem, r0, r1, r2]) rfl ?_
  exact term_ret HBA.out (Nat.le_refl _) HT2.out HP2.out HG2.out (grown_set3 _ _ _ _ _) _ rfl
set_option maxRecDepth 100000 in
set_option maxHeartbeats 4000000 in
theorem pelem_any {w : World} {f p base : Nat} {N : NmV} {nm : Nm} {st : PenS} {V : PV} {X : List (Option Nat)} (h : PenAt w p base N nm st V X) (name : ByteArray) (ns : Int) (pre : ByteArray) (ht : st.tot ≤ 1000000) :
    Calls Tryz.prog 93 #[.pointer (some ⟨p, 0, none⟩), .string name, .int .i64 ns, .string pre] w (TermP f p base N nm X (penElem nm st name ns pre) V w) := by
  have hbA := (Below.refl w.heap.size w).alloc (Nat.le_refl _) (.cells #[.int .i64 0, .int .i64 0, .slice none 0 0] 110)
  have HBA := Lib.hid hbA
  have HP1 := Lib.hid (h.fresh hbA (Nat.le_refl _) (by simp))
  have D1 := Lib.hid (show Blk (w.alloc (.cells #[.int .i64 0, .int .i64 0, .slice none 0 0] 110)) w.heap.size [.int .i64 0, .int .i64 0, .slice none 0 0] 110 from Blk.alloc [.int .i64 0, .int .i64 0, .slice none 0 0] _)
  have fS := pspace_any HP1.out ns pre false
  unfold penElem
  dsimp only
  generalize spaceF nm ns pre false = q at *
  obtain ⟨qb, qs⟩ := q
  dsimp only at fS ⊢
  have HH := Lib.hid h
  have HTT := Lib.hid ht
  clear h hbA ht
  have hsp := fun (w3 : World) (hb3 : Below (w.alloc (.cells #[.int .i64 0, .int .i64 0, .slice none 0 0] 110)).heap.size (w.alloc (.cells #[.int .i64 0, .int .i64 0, .slice none 0 0] 110)) w3) => Lib.hid (HP1.out.later hb3)
  have HSP := Lib.hid hsp
  clear hsp
  have space1 := True.intro
  by_cases hn : name = ⟨#[]⟩ ∧ qb = false
  · rw [if_pos hn]
    have q1 : name.toList.isEmpty = true := by rw [isEmptyS]; exact decide_eq_true hn.1
    have q2 := hn.2
    subst q2
    have q3 := hn.1
    subst q3
    clear hn
    go_enter Tryz.func93, Tryz.ntmps93
    go_wp2_with (go_at_call 95; (with_reducible refine fS.mono ?_); rintro e w3 ⟨rfl, hb3⟩; have D2 := Lib.hid (D1.out.later hb3 D1.out.lt); have HB3 := Lib.hid (HBA.out.trans (hb3.mono HBA.out.size)); have t0 := D2.out.cell 0 _ rfl; have t1 := D2.out.cell 1 _ rfl; have t2 := D2.out.cell 2 _ rfl; have g0 := D2.out.frozen 0; have g1 := D2.out.frozen 1; have g2 := D2.out.frozen 2; clear hb3)
    have F := setAll_blkE [.int .i64 7, .int .i64 0, .slice none 0 0] 0 _ _ D2.out
    have r0 := F.cell 0 _ rfl
    have r1 := F.cell 1 _ rfl
    have r2 := F.cell 2 _ rfl
    change bodyPost _ _ _ _ _ (setAllE w3 w.heap.size 0 [.int .i64 7, .int .i64 0, .slice none 0 0])
    refine bodyPost_ret (v := .agg #[.int .i64 7, .int .i64 0, .slice none 0 0]) (by simp [results, Tryz.results93, go_sem, r0, r1, r2]) rfl ?_
    exact term_leaf (w1 := w) (g := 0) HH.out (setAll_belowE (Nat.le_refl w.heap.size) [.int .i64 7, .int .i64 0, .slice none 0 0] 0 _ HB3.out) _ rfl
  · rw [if_neg hn]
    have q1 : name = ⟨#[]⟩ → qb = true := fun e => by cases qb with
      | true => rfl
      | false => exact absurd ⟨e, rfl⟩ hn
    have HFA := Lib.hid (fun (w3 : World) (hb3 : Below (w.alloc (.cells #[.int .i64 0, .int .i64 0, .slice none 0 0] 110)).heap.size (w.alloc (.cells #[.int .i64 0, .int .i64 0, .slice none 0 0] 110)) w3) => patom_any (f := f) (HSP.out w3 hb3).out ⟨1, qb, qs, name, 0, ⟨#[]⟩, false⟩ HTT.out)
    dsimp only at HFA
    generalize penAtom st ⟨1, qb, qs, name, 0, ⟨#[]⟩, false⟩ = r at *
    clear hn
    by_cases hz : name = ⟨#[]⟩
    · have q2 := q1 hz
      subst q2
      subst hz
      clear q1
      go_enter Tryz.func93, Tryz.ntmps93
      go_wp2_with (first
        | (go_at_call 95; (with_reducible refine fS.mono ?_); rintro e w3 ⟨rfl, hb3⟩; have fA := HFA.out w3 hb3; have HP3 := HSP.out w3 hb3; have D3 := Lib.hid (D1.out.later hb3 D1.out.lt); have HB3 := Lib.hid (HBA.out.trans (hb3.mono HBA.out.size)); clear hb3)
        | (go_at_call 96; (with_reducible refine fA.mono ?_); rintro e w2 ⟨V2, a2, n2, c2, rfl, hT2, hP2, hG2⟩; have HT2 := Lib.hid hT2; have HP2 := Lib.hid hP2; have HG2 := Lib.hid hG2; have D2 := Lib.hid (Blk.pg HP3.out (by simp) hG2 D3.out); have t0 := D2.out.cell 0 _ rfl; have t1 := D2.out.cell 1 _ rfl; have t2 := D2.out.cell 2 _ rfl; have g0 := D2.out.frozen 0; have g1 := D2.out.frozen 1; have g2 := D2.out.frozen 2; clear hT2 hP2 hG2))
      have F := setAll_blkE [.int .i64 r.1.kind, .int .i64 r.1.num, .slice a2 n2 c2] 0 _ _ D2.out
      have r0 := F.cell 0 _ rfl
      have r1 := F.cell 1 _ rfl
      have r2 := F.cell 2 _ rfl
      change bodyPost _ _ _ _ _ (setAllE w2 w.heap.size 0 [.int .i64 r.1.kind, .int .i64 r.1.num, .slice a2 n2 c2])
      refine bodyPost_ret (v := .agg #[.int .i64 r.1.kind, .int .i64 r.1.num, .slice a2 n2 c2]) (by simp [results, Tryz.results93, go_sem, r0, r1, r2]) rfl ?_
      exact term_ret HB3.out (Nat.le_refl _) HT2.out HP2.out HG2.out (grown_set3 _ _ _ _ _) _ rfl
    · have q2 : name.toList.isEmpty = false := by rw [isEmptyS]; exact decide_eq_false hz
      clear q1 hz
      go_enter Tryz.func93, Tryz.ntmps93
      go_wp2_with (first
        | (go_at_call 95; (with_reducible refine fS.mono ?_); rintro e w3 ⟨rfl, hb3⟩; have fA := HFA.out w3 hb3; have HP3 := HSP.out w3 hb3; have D3 := Lib.hid (D1.out.later hb3 D1.out.lt); have HB3 := Lib.hid (HBA.out.trans (hb3.mono HBA.out.size)); clear hb3)
        | (go_at_call 96; (with_reducible refine fA.mono ?_); rintro e w2 ⟨V2, a2, n2, c2, rfl, hT2, hP2, hG2⟩; have HT2 := Lib.hid hT2; have HP2 := Lib.hid hP2; have HG2 := Lib.hid hG2; have D2 := Lib.hid (Blk.pg HP3.out (by simp) hG2 D3.out); have t0 := D2.out.cell 0 _ rfl; have t1 := D2.out.cell 1 _ rfl; have t2 := D2.out.cell 2 _ rfl; have g0 := D2.out.frozen 0; have g1 := D2.out.frozen 1; have g2 := D2.out.frozen 2; clear hT2 hP2 hG2))
      have F := setAll_blkE [.int .i64 r.1.kind, .int .i64 r.1.num, .slice a2 n2 c2] 0 _ _ D2.out
      have r0 := F.cell 0 _ rfl
      have r1 := F.cell 1 _ rfl
      have r2 := F.cell 2 _ rfl
      change bodyPost _ _ _ _ _ (setAllE w2 w.heap.size 0 [.int .i64 r.1.kind, .int .i64 r.1.num, .slice a2 n2 c2])
      refine bodyPost_ret (v := .agg #[.int .i64 r.1.kind, .int .i64 r.1.num, .slice a2 n2 c2]) (by simp [results, Tryz.results93, go_sem, r0, r1, r2]) rfl ?_
      exact term_ret HB3.out (Nat.le_refl _) HT2.out HP2.out HG2.out (grown_set3 _ _ _ _ _) _ rfl
set_option maxRecDepth 100000 in
set_option maxHeartbeats 4000000 in
theorem pnot_any {w : World} {f p base : Nat} {N : NmV} {nm : Nm} {st : PenS} {V : PV} {X : List (Option Nat)} (h : PenAt w p base N nm st V X) (t : Tm) (a : Option Addr) (n c : Nat) (hT : TmsAt f (okE base w (V.own ++ X)) w a n c t.subs) :
    Calls Tryz.prog 98 #[.agg #[.int .i64 t.kind, .int .i64 t.num, .slice a n c]] w (fun e w' => ∃ a' c', e = .returned (.agg #[.int .i64 3, .int .i64 0, .slice a' 1 c']) ∧ TmsAt (f + 1) (okE base w' (V.own ++ X)) w' a' 1 c' [t] ∧ Below w.heap.size w w') := by
  have hb0 := (Below.refl w.heap.size w).alloc (Nat.le_refl _) (.cells #[.int .i64 t.kind, .int .i64 t.num, .slice a n c] 110)
  have hb1 := hb0.alloc hb0.size (.cells #[.int .i64 0, .int .i64 0, .slice none 0 0] 110)
  have hb2 := hb1.alloc hb1.size (.cells #[.int .i64 t.kind, .int .i64 t.num, .slice a n c] 110)
  have B0 := (Blk.alloc (w := w) [.int .i64 t.kind, .int .i64 t.num, .slice a n c] 110).alloc_old (.cells #[.int .i64 0, .int .i64 0, .slice none 0 0] 110)
  have B1 := (Blk.alloc (w := w.alloc (.cells #[.int .i64 t.kind, .int .i64 t.num, .slice a n c] 110)) [.int .i64 0, .int .i64 0, .slice none 0 0] 110).alloc_old (.cells #[.int .i64 t.kind, .int .i64 t.num, .slice a n c] 110)
  have B2 := Blk.alloc (w := (w.alloc (.cells #[.int .i64 t.kind, .int .i64 t.num, .slice a n c] 110)).alloc (.cells #[.int .i64 0, .int .i64 0, .slice none 0 0] 110)) [.int .i64 t.kind, .int .i64 t.num, .slice a n c] 110
  obtain ⟨w2, hw2⟩ : ∃ w2, ((w.alloc (.cells #[.int .i64 t.kind, .int .i64 t.num, .slice a n c] 110)).alloc (.cells #[.int .i64 0, .int .i64 0, .slice none 0 0] 110)).alloc (.cells #[.int .i64 t.kind, .int .i64 t.num, .slice a n c] 110) = w2 := ⟨_, rfl⟩
  have B1 : Blk (((w.alloc (.cells #[.int .i64 t.kind, .int .i64 t.num, .slice a n c] 110)).alloc (.cells #[.int .i64 0, .int .i64 0, .slice none 0 0] 110)).alloc (.cells #[.int .i64 t.kind, .int .i64 t.num, .slice a n c] 110)) (w.alloc (.cells #[.int .i64 t.kind, .int .i64 t.num, .slice a n c] 110)).heap.size _ _ := B1
  have B2 : Blk (((w.alloc (.cells #[.int .i64 t.kind, .int .i64 t.num, .slice a n c] 110)).alloc (.cells #[.int .i64 0, .int .i64 0, .slice none 0 0] 110)).alloc (.cells #[.int .i64 t.kind, .int .i64 t.num, .slice a n c] 110)) ((w.alloc (.cells #[.int .i64 t.kind, .int .i64 t.num, .slice a n c] 110)).alloc (.cells #[.int .i64 0, .int .i64 0, .slice none 0 0] 110)).heap.size _ _ := B2
  rw [show (w.alloc (.cells #[.int .i64 t.kind, .int .i64 t.num, .slice a n c] 110)).heap.size = w.heap.size + 1 from by simp] at B1
  rw [show ((w.alloc (.cells #[.int .i64 t.kind, .int .i64 t.num, .slice a n c] 110)).alloc (.cells #[.int .i64 0, .int .i64 0, .slice none 0 0] 110)).heap.size = w.heap.size + 2 from by simp] at B2
  rw [hw2] at B1 B2 hb2
  have z0 := B0.cell 0 _ rfl
  have z1 := B0.cell 1 _ rfl
  have z2 := B0.cell 2 _ rfl
  have t0 := B1.cell 0 _ rfl
  have t1 := B1.cell 1 _ rfl
  have t2 := B1.cell 2 _ rfl
  have g0 := B1.frozen 0
  have g1 := B1.frozen 1
  have g2 := B1.frozen 2
  have HB1 := Lib.hid B1
  have HB2 := Lib.hid B2
  have HBB := Lib.hid hb2
  have HP := Lib.hid h
  have HT := Lib.hid hT
  clear B0 B1 B2 hb0 hb1 hb2 h hT
  go_enter Tryz.func98, Tryz.ntmps98
  go_wp2
  have F := setAll_blkE [.int .i64 3, .int .i64 0, .slice (some ⟨w.heap.size + 2, 0, none⟩) 1 1] 0 _ _ HB1.out
  have r0 := F.cell 0 _ rfl
  have r1 := F.cell 1 _ rfl
  have r2 := F.cell 2 _ rfl
  change bodyPost _ _ _ _ _ (setAllE w2 (w.heap.size + 1) 0 [.int .i64 3, .int .i64 0, .slice (some ⟨w.heap.size + 2, 0, none⟩) 1 1])
  refine bodyPost_ret (v := .agg #[.int .i64 3, .int .i64 0, .slice (some ⟨w.heap.size + 2, 0, none⟩) 1 1]) (by simp [results, Tryz.results98, go_sem, r0, r1, r2]) rfl ?_
  have hgF := grown_set3 w2 (w.heap.size + 1) (.int .i64 3) (.int .i64 0) (.slice (some ⟨w.heap.size + 2, 0, none⟩) 1 1)
  have hbF := setAll_belowE (Nat.le_succ w.heap.size) [.int .i64 3, .int .i64 0, .slice (some ⟨w.heap.size + 2, 0, none⟩) 1 1] 0 _ HBB.out
  have hB2F := HB2.out.kept hgF (fun hh => by have := Option.some.inj hh; omega)
  have hbw := HP.out.bw
  have hnew : ∀ b, w.heap.size ≤ b → some b ∉ V.own ++ X := fun b hb hm => by
    rcases List.mem_append.1 hm with hm | hm
    · have := (PV.own_lt HP.out hm).2; omega
    · have := (HP.out.xs b hm).2; omega
  refine ⟨_, 1, rfl, ?_, hbF⟩
  show Rg 3 tmCells (fun ok w a n c t => TmsAt f ok w a n c t.subs) _ _ _ _ _ _
  refine ⟨rfl, Nat.le_refl _, ⟨by unfold maxLen; omega, by omega⟩, .inr ⟨w.heap.size + 2, 0, rfl, ⟨by omega, hB2F.lt, hnew _ (by omega)⟩, fun i x hx => ?_⟩⟩
  cases i with
  | succ i => simp at hx
  | zero =>
    simp at hx
    subst hx
    refine ⟨a, n, c, fun k u hu => ?_, TmsAt_moves f _ _ _ _ _ _ _ _ (fun b hb => ⟨⟨hb.1, Nat.lt_of_lt_of_le hb.2.1 hbF.size, hb.2.2⟩, hbF.block b hb.2.1⟩) HT.out⟩
    rw [show 0 + 0 * 3 + k = k from by omega]
    exact hB2F.cell k u hu
end

section
open Go.RowKit
set_option linter.unusedVariables false
set_option linter.unusedSimpArgs false
def cntS {L : Type} (f : L → Nat) (s : Flat × L) : Nat := 4 + f s.2
def cntK {L : Type} (f : L → Nat) (k : Int × List (Flat × L)) : Nat := 1 + (k.2.map (cntS f)).sum
def cntX {L : Type} (f : L → Nat) (x : List (Int × List (Flat × L))) : Nat := 1 + (x.map (cntK f)).sum
def cntL : (d : Nat) → Lx d → Nat
  | 0, _ => 0
  | d + 1, x => (List.map (cntX (cntL d)) x).sum
def LisP (p base : Nat) (N : NmV) (nm : Nm) (X : List (Option Nat)) (r : List Int × PenS) (V : PV) (w : World) (e : Ending) (w' : World) : Prop :=
  ∃ V' a c, e = .returned (.slice a r.1.length c) ∧ IntsAt (okE base w' (V'.own ++ X)) w' a r.1.length c r.1 ∧ r.1.length ≤ 1000000 ∧ PenAt w' p base N nm r.2 V' X ∧ PG w w' p V V'
def ListC (d p base : Nat) (N : NmV) (nm : Nm) : Prop :=
  ∀ (x : Lx d) (w : World) (st : PenS) (V : PV) (X : List (Option Nat)) (a : Option Addr) (n c : Nat), PenAt w p base N nm st V X → RdL (· < p) d w a n c x → st.tot + cntL d x ≤ 1000000 →
    Calls Tryz.prog 26 #[.pointer (some ⟨p, 0, none⟩), .slice a n c] w (LisP p base N nm X (penL nm d x st) V w)
theorem TryzinfoTrm : (Tryz.prog.info? 110).map (fun i => (i.zero, i.size, i.bytes)) = some (some (.agg #[.int .i64 0, .int .i64 0, .slice none 0 0]), 3, 40) := by kernel_rfl
def rowTm (r : Int) : List Value := [.int .i64 2, .int .i64 r, .slice none 0 0]
theorem rowTm_one (r : Int) : ∀ u ∈ rowTm r, u.oneCell' = true := by
  intro u hu
  simp only [rowTm, List.mem_cons, List.not_mem_nil, or_false] at hu
  rcases hu with rfl | rfl | rfl <;> rfl
theorem flatR_get : ∀ (l : List Int) (i f : Nat) (x : Int), l[i]? = some x → f < 3 → (l.flatMap rowTm)[i * 3 + f]? = (rowTm x)[f]?
  | [], _, _, _, h, _ => by simp at h
  | x0 :: l, 0, f, x, h, hf => by
    simp at h
    subst h
    rw [List.flatMap_cons, List.getElem?_append_left (by show _ < 3; omega)]
    simp
  | x0 :: l, i + 1, f, x, h, hf => by
    rw [List.flatMap_cons, List.getElem?_append_right (by show 3 ≤ _; omega)]
    rw [show (i + 1) * 3 + f - (rowTm x0).length = i * 3 + f from by show (i + 1) * 3 + f - 3 = _; omega]
    exact flatR_get l i f x (by simpa using h) hf
theorem rows_rd {w : World} {base n : Nat} {T : TypeId} {v : Value} {l : List Int} {ok : Nat → Prop} (h : w.ownsRow base T 3 v n (l.flatMap rowTm)) (hn : n = l.length) (hl : n ≤ 1000000) (hok : ∀ g, v.ownBlock = some g → ok g) :
    ∃ a c, v = .slice a n c ∧ TmsAt 1 ok w a n c (l.map fun r => Tm.mk 2 r []) := by
  obtain ⟨h2, ⟨hv', h0⟩ | ⟨g, cap, cur, rfl, hb, hc, hnc, hcm, hcs, htk⟩⟩ := h
  · refine ⟨none, 0, by rw [hv', h0], by rw [List.length_map]; exact hn, by omega, ⟨by unfold maxLen; omega, by omega⟩, .inl ?_⟩
    rw [List.map_eq_nil_iff]
    exact List.length_eq_zero_iff.1 (by omega)
  · refine ⟨_, cap, rfl, by rw [List.length_map]; exact hn, hnc, ⟨hcm, by omega⟩, ?_⟩
    have hB : Blk w g cur.toList T := by unfold Blk; simpa using hc
    refine .inr ⟨g, 0, rfl, hok g rfl, fun i x hx => ?_⟩
    rw [List.getElem?_map] at hx
    obtain ⟨y, hy, rfl⟩ := Option.map_eq_some_iff.1 hx
    refine ⟨none, 0, 0, fun f u hu => ?_, ⟨rfl, by unfold maxLen; omega, rfl⟩⟩
    have hf : f < 3 := (List.getElem?_eq_some_iff.1 hu).1
    have hg := flatR_get l i f y hy hf
    rw [show (rowTm y)[f]? = some u from hu, ← htk, List.getElem?_take] at hg
    split at hg
    · rw [Nat.zero_add]; exact hB.cell _ _ hg
    · cases hg
theorem TmsAt.ups {f k : Nat} {ok : Nat → Prop} {w : World} {a : Option Addr} {n c : Nat} {ts : List Tm} (h : TmsAt f ok w a n c ts) : TmsAt (f + k) ok w a n c ts := by
  induction k with
  | zero => exact h
  | succ k ih => exact TmsAt.up _ ih
set_option maxRecDepth 100000 in
set_option maxHeartbeats 4000000 in
theorem psome_any {d p base : Nat} {N : NmV} {nm : Nm} (hL : ListC d p base N nm) (x : Lx d) {w : World} {st : PenS} {V : PV} {X : List (Option Nat)} {a : Option Addr} {n c : Nat} (h : PenAt w p base N nm st V X) (hx : RdL (· < p) d w a n c x) (ht : st.tot + cntL d x ≤ 1000000) :
    Calls Tryz.prog 97 #[.pointer (some ⟨p, 0, none⟩), .slice a n c] w (TermP 4 p base N nm X (tmRows (penL nm d x st).1, (penL nm d x st).2) V w) := by
  obtain ⟨iT, hiT, hzT⟩ := Option.map_eq_some_iff.1 TryzinfoTrm
  simp only [Prod.mk.injEq] at hzT
  have HIT := Lib.hid (And.intro hiT hzT)
  clear hiT hzT
  have hbA := (Below.refl w.heap.size w).alloc (Nat.le_refl _) (.cells #[.int .i64 0, .int .i64 0, .slice none 0 0] 110)
  have HBA := Lib.hid hbA
  have HP1 := Lib.hid (h.fresh hbA (Nat.le_refl _) (by simp))
  have D1 := Lib.hid (show Blk (w.alloc (.cells #[.int .i64 0, .int .i64 0, .slice none 0 0] 110)) w.heap.size [.int .i64 0, .int .i64 0, .slice none 0 0] 110 from Blk.alloc [.int .i64 0, .int .i64 0, .slice none 0 0] _)
  have fL := hL x _ st V _ a n c HP1.out (RdL.move (fun b hb => ⟨hb, hbA.block b (Nat.lt_trans hb h.blk.lt)⟩) hx) ht
  generalize penL nm d x st = r at *
  obtain ⟨rs, st2⟩ := r
  have fL2 := fL.mono (R' := fun e w' => ∃ (V' : PV) (a : Option Addr) (c : Nat), e = .returned (.slice a rs.length c) ∧ IntsAt (okE base w' (V'.own ++ some w.heap.size :: X)) w' a rs.length c rs ∧ rs.length ≤ 1000000 ∧ PenAt w' p base N nm st2 V' (some w.heap.size :: X) ∧ PG (w.alloc (.cells #[.int .i64 0, .int .i64 0, .slice none 0 0] 110)) w' p V V') (fun e w' h => h)
  have HLT := Lib.hid h.bw
  clear fL hbA h hx hL ht
  go_enter Tryz.func97, Tryz.ntmps97
  go_wp2_with (go_at_call 26; (with_reducible refine fL2.mono ?_); rintro e w2 ⟨V2, a2, c2, rfl, hI2, hn2, hP2, hG2⟩; have HI2 := Lib.hid hI2; have HP2 := Lib.hid hP2; have HG2 := Lib.hid hG2; have D2 := Lib.hid (Blk.pg HP1.out (by simp) hG2 D1.out); clear hI2 hP2 hG2)
  obtain ⟨m, hm⟩ : ∃ m, rs.length = m := ⟨_, rfl⟩
  rw [hm] at hn2
  simp only [hm]
  have HM := Lib.hid hm
  have D5 : Blk (w2.alloc (.cells #[.int .i64 4, .int .i64 0, .slice none 0 0] 110)) w2.heap.size [.int .i64 4, .int .i64 0, .slice none 0 0] 110 := Blk.alloc [.int .i64 4, .int .i64 0, .slice none 0 0] _
  have HB5 := Lib.hid ((Below.refl w2.heap.size w2).alloc (Nat.le_refl _) (.cells #[.int .i64 4, .int .i64 0, .slice none 0 0] 110))
  have D5 := Lib.hid D5
  clear hm
  go_loopw [7] (fun i wr => ∃ (j : Nat) (v : Value), j ≤ m ∧ i = .int .i64 j ∧ Hid (wr.ownsRow (w2.heap.size + 1) 110 3 v j ((rs.take j).flatMap rowTm)) ∧ Hid (Blk wr w2.heap.size [.int .i64 4, .int .i64 0, v] 110) ∧ Hid (Below w2.heap.size w2 wr)) (fun i _ => m - (intOf i).toNat)
  case atStart => exact ⟨0, .slice none 0 0, Nat.zero_le _, rfl, Lib.hid (World.ownsRow_nil _ _ _ _), D5, HB5⟩
  case round =>
    obtain ⟨j, v, hj, rfl, HO, HB, HBw⟩ := hrel
    obtain ⟨va, vc, rfl⟩ := own_shape HO.out
    by_cases hlt : j < m
    · obtain ⟨r, hr⟩ : ∃ r, rs[j]? = some r := ⟨_, List.getElem?_eq_getElem (by rw [HM.out]; exact hlt)⟩
      obtain ⟨b, off, rfl, hb, hc⟩ := HI2.out.at j r hr
      rw [Nat.mul_one] at hc
      have hbl : b < w2.heap.size := hb.2.1
      have HTK := Lib.hid (show (rs.take (j + 1)).flatMap rowTm = (rs.take j).flatMap rowTm ++ rowTm r from by rw [List.take_add_one, hr]; simp)
      have hjI : (0 : Int) ≤ (j : Int) := by omega
      have hjI2 : (j : Int) < (m : Int) := by omega
      have u0 : wr.cell? ⟨b, off + j, none⟩ = some (.int .i64 r) := (HBw.out.cell (p := ⟨b, off + j, none⟩) hbl).trans hc
      have u1 : wr.drew.cell? ⟨b, off + j, none⟩ = some (.int .i64 r) := u0
      have z0 := HB.out.cell 2 _ rfl
      have z1 : wr.drew.cell? ⟨w2.heap.size, 2, none⟩ = some (.slice va j vc) := z0
      have zf : wr.drew.frozen? ⟨w2.heap.size, 2, none⟩ = false := HB.out.frozen 2
      have BQ0 := HB.out.alloc_old (.cells #[.int .i64 2, .int .i64 r, .slice none 0 0] 110)
      have z2 := BQ0.cell 2 _ rfl
      have BQ : Blk ((wr.alloc (.cells #[.int .i64 2, .int .i64 r, .slice none 0 0] 110)).drew) w2.heap.size [.int .i64 4, .int .i64 0, .slice va j vc] 110 := BQ0
      have z3 := BQ.cell 2 _ rfl
      have BQ := Lib.hid BQ
      have HBq := Lib.hid (show Below w2.heap.size w2 ((wr.alloc (.cells #[.int .i64 2, .int .i64 r, .slice none 0 0] 110)).drew) from (HBw.out.alloc HBw.out.size _).drew)
      have HOq := Lib.hid (show ((wr.alloc (.cells #[.int .i64 2, .int .i64 r, .slice none 0 0] 110)).drew).ownsRow (w2.heap.size + 1) 110 3 (.slice va j vc) j ((rs.take j).flatMap rowTm) from World.ownsRow.alloc (w := wr) HO.out _)
      have DRq : Hid (Blk ((wr.alloc (.cells #[.int .i64 2, .int .i64 r, .slice none 0 0] 110)).drew) wr.heap.size (rowTm r) 110) := Lib.hid (show Blk (wr.alloc (.cells #[.int .i64 2, .int .i64 r, .slice none 0 0] 110)) wr.heap.size (rowTm r) 110 from Blk.alloc (rowTm r) _)
      have HSZ := Lib.hid (show w2.heap.size + 1 ≤ wr.heap.size from HB.out.lt)
      clear hr hc BQ0
      go_wp2
      go_region_law (first
        | (refine step_append_row2 rfl _ _ 79 rfl (w2.heap.size + 1) 110 iT _ 3 40 Tryz.underlying79 HIT.out.1 HIT.out.2.1 rfl (by decide) HIT.out.2.2.1 HIT.out.2.2.2 (.slice va j vc) j _ rfl wr.heap.size 0 1 (rowTm r) rfl rfl (rowTm_one r) (by unfold maxLen; omega) (by omega) HOq.out (fun k u hu => by rw [Nat.zero_add]; exact DRq.out.cell k u hu) (by have := HSZ.out; simp; omega) ?_
           intro v8 w8 hown8 hgr8 hv8
           obtain ⟨a8, c8, rfl⟩ := own_shape hown8
           have B8 := BQ.out.kept hgr8 (fun hh => by have := (owns_own HOq.out hh).1; omega)
           have y8 := B8.cell 2 _ rfl
           have f8 := B8.frozen 2
           have HB8 := Lib.hid (B8.setCell 2 (.slice a8 (j + 1) c8))
           have HW8 := Lib.hid ((HBq.out.grown hgr8 HBq.out.size (fun g hg => by have := (owns_own HOq.out hg).1; omega)).setCell (p := ⟨w2.heap.size, 2, none⟩) (Nat.le_refl _) (.slice a8 (j + 1) c8))
           have HO8 := Lib.hid (owns_stay (fun g hg => (grown_setCell w8 w2.heap.size 2 (.slice a8 (j + 1) c8)).block g (owns_own hown8 hg).2 (fun e => by have := Option.some.inj e; have := (owns_own hown8 hg).1; omega)) hown8)
           clear hown8 hgr8 hv8 B8))
      all_goals
        go_wp2
        go_roundw
        case rel => exact ⟨j + 1, .slice a8 (j + 1) c8, by omega, by go_num, Lib.hid (by rw [HTK.out]; exact HO8.out), HB8, HW8⟩
        case measure => simp [intOf]; omega
    · obtain rfl : j = m := by omega
      have hjI2 : ¬ (j : Int) < (j : Int) := by omega
      have HG := Lib.hid (Blk.later D2.out HBw.out D2.out.lt)
      have z0 := HB.out.cell 0 _ rfl
      have z1 := HB.out.cell 1 _ rfl
      have z2 := HB.out.cell 2 _ rfl
      have t0 := HG.out.cell 0 _ rfl
      have t1 := HG.out.cell 1 _ rfl
      have t2 := HG.out.cell 2 _ rfl
      have g0 := HG.out.frozen 0
      have g1 := HG.out.frozen 1
      have g2 := HG.out.frozen 2
      go_wp2
      have F := setAll_blkE [.int .i64 4, .int .i64 0, .slice va j vc] 0 _ _ HG.out
      have r0 := F.cell 0 _ rfl
      have r1 := F.cell 1 _ rfl
      have r2 := F.cell 2 _ rfl
      change bodyPost _ _ _ _ _ (setAllE wr w.heap.size 0 [.int .i64 4, .int .i64 0, .slice va j vc])
      refine bodyPost_ret (v := .agg #[.int .i64 4, .int .i64 0, .slice va j vc]) (by simp [results, Tryz.results97, go_sem, r0, r1, r2]) rfl ?_
      have hO := HO.out
      rw [List.take_of_length_le (by rw [HM.out]; exact Nat.le_refl _)] at hO
      obtain ⟨a', c', hv, hT⟩ := rows_rd (ok := okE base wr (V2.own ++ some w.heap.size :: X)) hO HM.out.symm (by omega) (fun g hg => by
        have h3 := owns_own hO hg
        have hbw := HP2.out.bw
        refine ⟨by omega, h3.2, fun hm => ?_⟩
        rcases List.mem_append.1 hm with hm | hm
        · have := (PV.own_lt HP2.out hm).2; omega
        · have := (HP2.out.xs g hm).2; omega)
      cases hv
      exact term_ret (r := (tmRows rs, st2)) HBA.out (Nat.le_refl _) (TmsAt.ups (k := 3) hT) (HP2.out.later HBw.out) (HG2.out.trans (PG.of_below HBw.out)) (grown_set3 _ _ _ _ _) _ rfl
end
end Go.Proofs.YtcfhggdiccilaaaGreat
