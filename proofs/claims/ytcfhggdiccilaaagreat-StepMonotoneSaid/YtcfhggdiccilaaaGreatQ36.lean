/- Texts of mine in one: Fpl Fpa. -/
import Derived.Test.YtcfhggdiccilaaaGreatQ33
import Derived.Test.YtcfhggdiccilaaaGreatQ34
import Derived.Test.YtcfhggdiccilaaaGreatQ35
namespace Go.Proofs.YtcfhggdiccilaaaGreat
section
open Go.RowKit
set_option linter.unusedVariables false
set_option linter.unusedSimpArgs false
theorem two_terms {w : World} {b f : Nat} {T : TypeId} {ok : Nat → Prop} {t u : Tm} {a1 a2 : Option Addr} {n1 n2 c1 c2 : Nat} (hB : Blk w b (tmCells t a1 n1 c1 ++ tmCells u a2 n2 c2) T) (hb : ok b) (h1 : TmsAt f ok w a1 n1 c1 t.subs) (h2 : TmsAt f ok w a2 n2 c2 u.subs) :
    TmsAt (f + 1) ok w (some ⟨b, 0, none⟩) 2 2 [t, u] := by
  show Rg 3 tmCells (fun ok w a n c t => TmsAt f ok w a n c t.subs) ok w _ _ _ _
  refine ⟨rfl, Nat.le_refl _, ⟨by unfold maxLen; omega, by omega⟩, .inr ⟨b, 0, rfl, hb, fun i x hx => ?_⟩⟩
  match i, hx with
  | 0, hx =>
    cases hx
    refine ⟨a1, n1, c1, fun k v hv => ?_, h1⟩
    have hk : k < 3 := (List.getElem?_eq_some_iff.1 hv).1
    rw [show 0 + 0 * 3 + k = k from by omega]
    exact hB.cell k v (by rw [List.getElem?_append_left (by show k < 3; exact hk)]; exact hv)
  | 1, hx =>
    cases hx
    refine ⟨a2, n2, c2, fun k v hv => ?_, h2⟩
    rw [show 0 + 1 * 3 + k = 3 + k from by omega]
    exact hB.cell (3 + k) v (by rw [List.getElem?_append_right (by show 3 ≤ 3 + k; omega)]; rw [show 3 + k - (tmCells t a1 n1 c1).length = k from by show 3 + k - 3 = k; omega]; exact hv)
  | i + 2, hx => simp at hx
theorem okE_new {w w' : World} {p base : Nat} {N : NmV} {nm : Nm} {st : PenS} {V : PV} {X : List (Option Nat)} (h : PenAt w p base N nm st V X) {b : Nat} (h1 : w.heap.size ≤ b) (h2 : b < w'.heap.size) : okE base w' (V.own ++ X) b :=
  ⟨Nat.le_trans h.bw h1, h2, fun hm => by
    rcases List.mem_append.1 hm with hm | hm
    · have := (PV.own_lt h hm).2; omega
    · have := (h.xs b hm).2; omega⟩
theorem tms_later {f base : Nat} {w w' : World} {G : List (Option Nat)} {a : Option Addr} {n c : Nat} {ts : List Tm} (hb : Below w.heap.size w w') (h : TmsAt f (okE base w G) w a n c ts) : TmsAt f (okE base w' G) w' a n c ts :=
  TmsAt_moves f _ _ _ _ _ _ _ _ (fun b h' => ⟨⟨h'.1, Nat.lt_of_lt_of_le h'.2.1 hb.size, h'.2.2⟩, hb.block b h'.2.1⟩) h
theorem tms_pg {f base p : Nat} {w w' : World} {V V' : PV} {X : List (Option Nat)} {a : Option Addr} {n c : Nat} {ts : List Tm} (hp : p < base) (hg : PG w w' p V V') (h : TmsAt f (okE base w (V.own ++ X)) w a n c ts) : TmsAt f (okE base w' (V'.own ++ X)) w' a n c ts :=
  TmsAt_moves f _ _ _ _ _ _ _ _ (fun b h' => okE_pg hg hp h') h
theorem tms_fresh {f base g : Nat} {w w' : World} {V : PV} {X : List (Option Nat)} {a : Option Addr} {n c : Nat} {ts : List Tm} (hb : Below w.heap.size w w') (hg : w.heap.size ≤ g) (h : TmsAt f (okE base w (V.own ++ X)) w a n c ts) : TmsAt f (okE base w' (V.own ++ some g :: X)) w' a n c ts :=
  TmsAt_moves f _ _ _ _ _ _ _ _ (fun b h' => ⟨⟨h'.1, Nat.lt_of_lt_of_le h'.2.1 hb.size, fun hm => by
    rcases List.mem_append.1 hm with hm | hm
    · exact h'.2.2 (List.mem_append_left _ hm)
    · rcases List.mem_cons.1 hm with e | hm
      · have := Option.some.inj e; have := h'.2.1; omega
      · exact h'.2.2 (List.mem_append_right _ hm)⟩, hb.block b h'.2.1⟩) h
theorem tms_drops {f base g g' : Nat} {w : World} {V : PV} {X : List (Option Nat)} {r : Option Nat} {a : Option Addr} {n c : Nat} {ts : List Tm} (h : TmsAt f (okE base w (V.own ++ some g :: some g' :: r :: X)) w a n c ts) : TmsAt f (okE base w (V.own ++ r :: X)) w a n c ts :=
  TmsAt_moves f _ _ _ _ _ _ _ _ (fun b h' => ⟨⟨h'.1, h'.2.1, fun hm => h'.2.2 (by
    rcases List.mem_append.1 hm with hm | hm
    · exact List.mem_append_left _ hm
    · exact List.mem_append_right _ (by simp only [List.mem_cons] at hm ⊢; exact .inr (.inr hm)))⟩, rfl⟩) h
set_option maxRecDepth 100000 in
set_option maxHeartbeats 4000000 in
theorem pterm_12 {d p base : Nat} {N : NmV} {nm : Nm} (hL : ListC d p base N nm) (ns : Int) (pre name : ByteArray) (op : Int) (text : ByteArray) (fold : Bool) (mark fa fb : Int) (x : Lx d) {w : World} {st : PenS} {V : PV} {X : List (Option Nat)} {a : Option Addr} {n c : Nat} (h : PenAt w p base N nm st V X) (hx : RdL (· < p) d w a n c x) (ht : st.tot + 4 + cntL d x ≤ 1000000) :
    Calls Tryz.prog 62 #[.pointer (some ⟨p, 0, none⟩), sval ⟨12, ns, pre, name, op, text, fold, mark, fa, fb⟩ a n c] w (TermP 5 p base N nm X (penTerm (penL nm d) nm st (⟨12, ns, pre, name, op, text, fold, mark, fa, fb⟩, x)) V w) := by
  have hb0 := (Below.refl w.heap.size w).alloc (Nat.le_refl _) (.cells #[.int .i64 12, .int .i64 ns, .string pre, .string name, .int .i64 op, .string text, .bool fold, .int .i64 mark, .int .i64 fa, .int .i64 fb, .slice a n c] 118)
  have hb1 := hb0.alloc hb0.size (.cells #[.int .i64 0, .int .i64 0, .slice none 0 0] 110)
  have HB1 := Lib.hid hb1
  have HP1 := Lib.hid (h.fresh hb1 (Nat.le_succ _) (by simp))
  have DS := Lib.hid (show Blk ((w.alloc (.cells #[.int .i64 12, .int .i64 ns, .string pre, .string name, .int .i64 op, .string text, .bool fold, .int .i64 mark, .int .i64 fa, .int .i64 fb, .slice a n c] 118)).alloc (.cells #[.int .i64 0, .int .i64 0, .slice none 0 0] 110)) w.heap.size [.int .i64 12, .int .i64 ns, .string pre, .string name, .int .i64 op, .string text, .bool fold, .int .i64 mark, .int .i64 fa, .int .i64 fb, .slice a n c] 118 from (Blk.alloc [.int .i64 12, .int .i64 ns, .string pre, .string name, .int .i64 op, .string text, .bool fold, .int .i64 mark, .int .i64 fa, .int .i64 fb, .slice a n c] _).alloc_old _)
  have D1 := Lib.hid (show Blk ((w.alloc (.cells #[.int .i64 12, .int .i64 ns, .string pre, .string name, .int .i64 op, .string text, .bool fold, .int .i64 mark, .int .i64 fa, .int .i64 fb, .slice a n c] 118)).alloc (.cells #[.int .i64 0, .int .i64 0, .slice none 0 0] 110)) (w.heap.size + 1) [.int .i64 0, .int .i64 0, .slice none 0 0] 110 from by
    have hh : Blk ((w.alloc (.cells #[.int .i64 12, .int .i64 ns, .string pre, .string name, .int .i64 op, .string text, .bool fold, .int .i64 mark, .int .i64 fa, .int .i64 fb, .slice a n c] 118)).alloc (.cells #[.int .i64 0, .int .i64 0, .slice none 0 0] 110)) (w.alloc (.cells #[.int .i64 12, .int .i64 ns, .string pre, .string name, .int .i64 op, .string text, .bool fold, .int .i64 mark, .int .i64 fa, .int .i64 fb, .slice a n c] 118)).heap.size [.int .i64 0, .int .i64 0, .slice none 0 0] 110 := Blk.alloc [.int .i64 0, .int .i64 0, .slice none 0 0] _
    rwa [show (w.alloc (.cells #[.int .i64 12, .int .i64 ns, .string pre, .string name, .int .i64 op, .string text, .bool fold, .int .i64 mark, .int .i64 fa, .int .i64 fb, .slice a n c] 118)).heap.size = w.heap.size + 1 from by simp] at hh)
  have HX1 := Lib.hid (RdL.move (w' := (w.alloc (.cells #[.int .i64 12, .int .i64 ns, .string pre, .string name, .int .i64 op, .string text, .bool fold, .int .i64 mark, .int .i64 fa, .int .i64 fb, .slice a n c] 118)).alloc (.cells #[.int .i64 0, .int .i64 0, .slice none 0 0] 110)) (fun b hb => ⟨hb, hb1.block b (Nat.lt_trans hb h.blk.lt)⟩) hx)
  have s0 := DS.out.cell 0 _ rfl
  have s1 := DS.out.cell 1 _ rfl
  have s2 := DS.out.cell 2 _ rfl
  have s3 := DS.out.cell 3 _ rfl
  have s4 := DS.out.cell 4 _ rfl
  have s5 := DS.out.cell 5 _ rfl
  have s6 := DS.out.cell 6 _ rfl
  have s7 := DS.out.cell 7 _ rfl
  have s8 := DS.out.cell 8 _ rfl
  have s9 := DS.out.cell 9 _ rfl
  have s10 := DS.out.cell 10 _ rfl
  have HH := Lib.hid h
  have HTT := Lib.hid ht
  have HL := Lib.hid hL
  unfold sval
  dsimp only
  have HPLT := Lib.hid (show p < base from h.pb)
  rw [show penTerm (penL nm d) nm st (⟨12, ns, pre, name, op, text, fold, mark, fa, fb⟩, x) = (tmNot (.mk 4 0 [tmNot (.mk 4 0 [(penElem nm st ⟨#[97]⟩ 0 ⟨#[]⟩).1, (penElem nm (penElem nm st ⟨#[97]⟩ 0 ⟨#[]⟩).2 ⟨#[97, 114, 101, 97]⟩ 0 ⟨#[]⟩).1]), tmNot (penPlain (penElem nm (penElem nm st ⟨#[97]⟩ 0 ⟨#[]⟩).2 ⟨#[97, 114, 101, 97]⟩ 0 ⟨#[]⟩).2 ⟨#[104, 114, 101, 102]⟩ 1 ⟨#[]⟩).1]), (penPlain (penElem nm (penElem nm st ⟨#[97]⟩ 0 ⟨#[]⟩).2 ⟨#[97, 114, 101, 97]⟩ 0 ⟨#[]⟩).2 ⟨#[104, 114, 101, 102]⟩ 1 ⟨#[]⟩).2) from rfl]
  obtain ⟨w1, hw1⟩ : ∃ w1, ((w.alloc (.cells #[.int .i64 12, .int .i64 ns, .string pre, .string name, .int .i64 op, .string text, .bool fold, .int .i64 mark, .int .i64 fa, .int .i64 fb, .slice a n c] 118)).alloc (.cells #[.int .i64 0, .int .i64 0, .slice none 0 0] 110)) = w1 := ⟨_, rfl⟩
  rw [hw1] at HB1 HP1 DS D1 HX1
  rw [hw1] at s0
  rw [hw1] at s1
  rw [hw1] at s2
  rw [hw1] at s3
  rw [hw1] at s4
  rw [hw1] at s5
  rw [hw1] at s6
  rw [hw1] at s7
  rw [hw1] at s8
  rw [hw1] at s9
  rw [hw1] at s10
  have f1 := pelem_any (f := 1) HP1.out ⟨#[97]⟩ 0 ⟨#[]⟩ (by omega)
  have HS1 := Lib.hid (penElem_tot nm st ⟨#[97]⟩ 0 ⟨#[]⟩)
  generalize penElem nm st ⟨#[97]⟩ 0 ⟨#[]⟩ = r1 at *
  have F2 := Lib.hid (fun (wx : World) (Vx : PV) (Y : List (Option Nat)) (hP : PenAt wx p base N nm r1.2 Vx Y) => pelem_any (f := 1) hP ⟨#[97, 114, 101, 97]⟩ 0 ⟨#[]⟩ (by have := HS1.out; have := HTT.out; omega))
  have HS2 := Lib.hid (penElem_tot nm r1.2 ⟨#[97, 114, 101, 97]⟩ 0 ⟨#[]⟩)
  generalize penElem nm r1.2 ⟨#[97, 114, 101, 97]⟩ 0 ⟨#[]⟩ = r2 at *
  have F3 := Lib.hid (fun (wx : World) (Vx : PV) (Y : List (Option Nat)) (hP : PenAt wx p base N nm r2.2 Vx Y) => pplain_any (f := 2) hP ⟨#[104, 114, 101, 102]⟩ 1 ⟨#[]⟩ (by have := HS1.out; have := HS2.out; have := HTT.out; omega))
  generalize penPlain r2.2 ⟨#[104, 114, 101, 102]⟩ 1 ⟨#[]⟩ = r3 at *
  clear h hx ht hb0 hb1 hL
  go_enter Tryz.func62, Tryz.ntmps62
  go_wp2_with (first
    | (go_at_call 93; (with_reducible refine f1.mono ?_); rintro e wa ⟨V1, a1, n1, c1, rfl, hT, hP, hG⟩; have hbA := (Below.refl wa.heap.size wa).alloc (Nat.le_refl _) (.cells #[.int .i64 r1.1.kind, .int .i64 r1.1.num, .slice a1 n1 c1] 110); have P1 := Lib.hid (hP.fresh (g := wa.heap.size) hbA (Nat.le_refl _) (by simp)); have G1 := Lib.hid (hG.trans (PG.of_below hbA)); have T1 := Lib.hid (tms_fresh (g := wa.heap.size) hbA (Nat.le_refl _) hT); have B1 := Lib.hid (show Blk (wa.alloc (.cells #[.int .i64 r1.1.kind, .int .i64 r1.1.num, .slice a1 n1 c1] 110)) wa.heap.size [.int .i64 r1.1.kind, .int .i64 r1.1.num, .slice a1 n1 c1] 110 from Blk.alloc [.int .i64 r1.1.kind, .int .i64 r1.1.num, .slice a1 n1 c1] _); have R1 := Lib.hid ((Blk.pg HP1.out (by simp) hG D1.out).alloc_old (.cells #[.int .i64 r1.1.kind, .int .i64 r1.1.num, .slice a1 n1 c1] 110)); have f2 := F2.out _ _ _ P1.out; clear hT hP hG hbA)
    | (go_at_call 93; (with_reducible refine f2.mono ?_); rintro e wb ⟨V2, a2, n2, c2, rfl, hT, hP, hG⟩; have hbA := (Below.refl wb.heap.size wb).alloc (Nat.le_refl _) (.cells #[.int .i64 r2.1.kind, .int .i64 r2.1.num, .slice a2 n2 c2] 110); have P2 := Lib.hid (hP.fresh (g := wb.heap.size) hbA (Nat.le_refl _) (by simp)); have G2 := Lib.hid ((G1.out.trans hG).trans (PG.of_below hbA)); have T2 := Lib.hid (tms_fresh (g := wb.heap.size) hbA (Nat.le_refl _) hT); have T12 := Lib.hid (tms_fresh (g := wb.heap.size) hbA (Nat.le_refl _) (tms_pg HPLT.out hG T1.out)); have B2 := Lib.hid (show Blk (wb.alloc (.cells #[.int .i64 r2.1.kind, .int .i64 r2.1.num, .slice a2 n2 c2] 110)) wb.heap.size [.int .i64 r2.1.kind, .int .i64 r2.1.num, .slice a2 n2 c2] 110 from Blk.alloc [.int .i64 r2.1.kind, .int .i64 r2.1.num, .slice a2 n2 c2] _); have B12 := Lib.hid ((Blk.pg P1.out (by simp) hG B1.out).alloc_old (.cells #[.int .i64 r2.1.kind, .int .i64 r2.1.num, .slice a2 n2 c2] 110)); have R2 := Lib.hid ((Blk.pg P1.out (by simp) hG R1.out).alloc_old (.cells #[.int .i64 r2.1.kind, .int .i64 r2.1.num, .slice a2 n2 c2] 110)); have f3 := F3.out _ _ _ P2.out; clear hT hP hG hbA)
    | (go_at_call 94; (with_reducible refine f3.mono ?_); rintro e wc ⟨V3, a3, n3, c3, rfl, hT, hP, hG⟩; have hbA := (Below.refl wc.heap.size wc).alloc (Nat.le_refl _) (.cells #[.int .i64 r3.1.kind, .int .i64 r3.1.num, .slice a3 n3 c3] 110); have P3 := Lib.hid (hP.later hbA); have HWC := Lib.hid (hP.xs (w.heap.size + 1) (by simp)).2; have G3 := Lib.hid ((G2.out.trans hG).trans (PG.of_below hbA)); have T3 := Lib.hid (tms_later hbA hT); have T13 := Lib.hid (tms_later hbA (tms_pg HPLT.out hG T12.out)); have T23 := Lib.hid (tms_later hbA (tms_pg HPLT.out hG T2.out)); have B3 := Lib.hid (show Blk (wc.alloc (.cells #[.int .i64 r3.1.kind, .int .i64 r3.1.num, .slice a3 n3 c3] 110)) wc.heap.size [.int .i64 r3.1.kind, .int .i64 r3.1.num, .slice a3 n3 c3] 110 from Blk.alloc [.int .i64 r3.1.kind, .int .i64 r3.1.num, .slice a3 n3 c3] _); have B13 := Lib.hid ((Blk.pg P2.out (by simp) hG B12.out).alloc_old (.cells #[.int .i64 r3.1.kind, .int .i64 r3.1.num, .slice a3 n3 c3] 110)); have B23 := Lib.hid ((Blk.pg P2.out (by simp) hG B2.out).alloc_old (.cells #[.int .i64 r3.1.kind, .int .i64 r3.1.num, .slice a3 n3 c3] 110)); have R3 := Lib.hid ((Blk.pg P2.out (by simp) hG R2.out).alloc_old (.cells #[.int .i64 r3.1.kind, .int .i64 r3.1.num, .slice a3 n3 c3] 110)); clear hT hP hG hbA))
  generalize hw5 : wc.alloc (.cells #[.int .i64 r3.1.kind, .int .i64 r3.1.num, .slice a3 n3 c3] 110) = w5 at P3 G3 T3 T13 T23 B3 B13 B23 R3 ⊢
  have FC := Lib.hid (fun (wx : World) (hb : Below w5.heap.size w5 wx) => (show wx.cell? ⟨wa.heap.size, 0, none⟩ = some (.int .i64 r1.1.kind) ∧ wx.cell? ⟨wa.heap.size, 1, none⟩ = some (.int .i64 r1.1.num) ∧ wx.cell? ⟨wa.heap.size, 2, none⟩ = some (.slice a1 n1 c1) ∧ wx.cell? ⟨wb.heap.size, 0, none⟩ = some (.int .i64 r2.1.kind) ∧ wx.cell? ⟨wb.heap.size, 1, none⟩ = some (.int .i64 r2.1.num) ∧ wx.cell? ⟨wb.heap.size, 2, none⟩ = some (.slice a2 n2 c2) ∧ wx.cell? ⟨wc.heap.size, 0, none⟩ = some (.int .i64 r3.1.kind) ∧ wx.cell? ⟨wc.heap.size, 1, none⟩ = some (.int .i64 r3.1.num) ∧ wx.cell? ⟨wc.heap.size, 2, none⟩ = some (.slice a3 n3 c3) from ⟨(B13.out.later hb B13.out.lt).cell 0 _ rfl, (B13.out.later hb B13.out.lt).cell 1 _ rfl, (B13.out.later hb B13.out.lt).cell 2 _ rfl, (B23.out.later hb B23.out.lt).cell 0 _ rfl, (B23.out.later hb B23.out.lt).cell 1 _ rfl, (B23.out.later hb B23.out.lt).cell 2 _ rfl, (B3.out.later hb B3.out.lt).cell 0 _ rfl, (B3.out.later hb B3.out.lt).cell 1 _ rfl, (B3.out.later hb B3.out.lt).cell 2 _ rfl⟩))
  have FN := Lib.hid (fun (wx : World) (hb : Below w5.heap.size w5 wx) (f : Nat) (t : Tm) (a : Option Addr) (n c : Nat) (hT : TmsAt f (okE base wx (V3.own ++ some wb.heap.size :: some wa.heap.size :: some (w.heap.size + 1) :: X)) wx a n c t.subs) => pnot_any (P3.out.later hb) t a n c hT)
  have FT := Lib.hid (fun (wx : World) (hb : Below w5.heap.size w5 wx) (b : Nat) (h1 : w5.heap.size ≤ b) (hB : Blk wx b (tmCells r1.1 a1 n1 c1 ++ tmCells r2.1 a2 n2 c2) 110) => two_terms hB (okE_new P3.out h1 hB.lt) (tms_later hb T13.out) (tms_later hb T23.out))
  have HB0 := Lib.hid (show Below w5.heap.size w5 w5.drew from (Below.refl _ _).drew)
  have HBb := Lib.hid (show Below w5.heap.size w5 (w5.alloc (.cells #[.int .i64 r1.1.kind, .int .i64 r1.1.num, .slice a1 n1 c1, .int .i64 r2.1.kind, .int .i64 r2.1.num, .slice a2 n2 c2] 110)).drew from ((Below.refl w5.heap.size w5).alloc (Nat.le_refl _) (.cells #[.int .i64 r1.1.kind, .int .i64 r1.1.num, .slice a1 n1 c1, .int .i64 r2.1.kind, .int .i64 r2.1.num, .slice a2 n2 c2] 110)).drew)
  have fA1 : Calls Tryz.prog 98 #[.agg #[.int .i64 4, .int .i64 0, .slice (some ⟨w5.heap.size, 0, none⟩) 2 2]] (w5.alloc (.cells #[.int .i64 r1.1.kind, .int .i64 r1.1.num, .slice a1 n1 c1, .int .i64 r2.1.kind, .int .i64 r2.1.num, .slice a2 n2 c2] 110)).drew _ := FN.out _ HBb.out 2 (Tm.mk 4 0 [r1.1, r2.1]) _ 2 2 (FT.out _ HBb.out w5.heap.size (Nat.le_refl _) (Blk.alloc (w := w5) (tmCells r1.1 a1 n1 c1 ++ tmCells r2.1 a2 n2 c2) _))
  have fB1 := FN.out _ HB0.out 2 r3.1 a3 n3 c3 (tms_later HB0.out T3.out)
  have fC1 := FN.out _ HBb.out 2 r3.1 a3 n3 c3 (tms_later HBb.out T3.out)
  obtain ⟨i0, i1, i2, i3, i4, i5, i6, i7, i8⟩ := FC.out w5 (Below.refl _ _)
  obtain ⟨j0, j1, j2, j3, j4, j5, j6, j7, j8⟩ := FC.out _ ((Below.refl w5.heap.size w5).alloc (Nat.le_refl _) (.cells #[.int .i64 r1.1.kind, .int .i64 r1.1.num, .slice a1 n1 c1, .int .i64 r2.1.kind, .int .i64 r2.1.num, .slice a2 n2 c2] 110))
  clear hw5
  go_wp2
  go_region_held3 (fun wx => wx.cell? ⟨wa.heap.size, 0, none⟩ = some (.int .i64 r1.1.kind) ∧ wx.cell? ⟨wa.heap.size, 1, none⟩ = some (.int .i64 r1.1.num) ∧ wx.cell? ⟨wa.heap.size, 2, none⟩ = some (.slice a1 n1 c1) ∧ wx.cell? ⟨wb.heap.size, 0, none⟩ = some (.int .i64 r2.1.kind) ∧ wx.cell? ⟨wb.heap.size, 1, none⟩ = some (.int .i64 r2.1.num) ∧ wx.cell? ⟨wb.heap.size, 2, none⟩ = some (.slice a2 n2 c2) ∧ wx.cell? ⟨wc.heap.size, 0, none⟩ = some (.int .i64 r3.1.kind) ∧ wx.cell? ⟨wc.heap.size, 1, none⟩ = some (.int .i64 r3.1.num) ∧ wx.cell? ⟨wc.heap.size, 2, none⟩ = some (.slice a3 n3 c3)) (first | exact FC.out _ HB0.out | exact FC.out _ HBb.out | exact FC.out _ H6.out | exact FC.out _ H7.out | exact FC.out _ H6a.out | exact FC.out _ H7a.out | exact FC.out _ H8.out | exact FS.out) (first
    | (go_at_call 98; (with_reducible refine fA1.mono ?_); rintro e w6 ⟨na, nc, rfl, hN, hb6⟩; have H6 := Lib.hid (HBb.out.trans (hb6.mono HBb.out.size)); have N6 := Lib.hid hN; have fA2 := FN.out w6 H6.out 2 r3.1 a3 n3 c3 (tms_later H6.out T3.out); obtain ⟨x0, x1, x2, x3, x4, x5, x6, x7, x8⟩ := FC.out w6 H6.out; clear hN hb6)
    | (go_at_call 98; (with_reducible refine fA2.mono ?_); rintro e w7 ⟨ma, mc, rfl, hM, hb7⟩; have H7 := Lib.hid (H6.out.trans (hb7.mono H6.out.size)); have NA := Lib.hid (tms_later hb7 N6.out); have NB := Lib.hid hM; clear hM hb7; have hb7a := (Below.refl w7.heap.size w7).alloc (Nat.le_refl _) (.cells #[.int .i64 3, .int .i64 0, .slice na 1 nc, .int .i64 3, .int .i64 0, .slice ma 1 mc] 110); have H7a := Lib.hid (H7.out.trans (hb7a.mono H7.out.size)); obtain ⟨z0, z1, z2, z3, z4, z5, z6, z7, z8⟩ := FC.out w7 H7.out; have fD : Calls Tryz.prog 98 #[.agg #[.int .i64 4, .int .i64 0, .slice (some ⟨w7.heap.size, 0, none⟩) 2 2]] (w7.alloc (.cells #[.int .i64 3, .int .i64 0, .slice na 1 nc, .int .i64 3, .int .i64 0, .slice ma 1 mc] 110)) _ := FN.out _ H7a.out 4 (.mk 4 0 [tmNot (Tm.mk 4 0 [r1.1, r2.1]), tmNot r3.1]) _ 2 2 (two_terms (w := w7.alloc (.cells #[.int .i64 3, .int .i64 0, .slice na 1 nc, .int .i64 3, .int .i64 0, .slice ma 1 mc] 110)) (b := w7.heap.size) (T := 110) (t := tmNot (Tm.mk 4 0 [r1.1, r2.1])) (u := tmNot r3.1) (Blk.alloc (tmCells (tmNot (Tm.mk 4 0 [r1.1, r2.1])) na 1 nc ++ tmCells (tmNot r3.1) ma 1 mc) _) (okE_new P3.out H7.out.size (by simp)) (tms_later hb7a NA.out) (tms_later hb7a NB.out)); clear hb7a)
    | (go_at_call 98; (with_reducible refine fC1.mono ?_); rintro e w6 ⟨ma, mc, rfl, hM, hb6⟩; have H6 := Lib.hid (HBb.out.trans (hb6.mono HBb.out.size)); have M6 := Lib.hid hM; have fC2 : Calls Tryz.prog 98 #[.agg #[.int .i64 4, .int .i64 0, .slice (some ⟨w5.heap.size, 0, none⟩) 2 2]] w6 _ := FN.out _ H6.out 2 (Tm.mk 4 0 [r1.1, r2.1]) _ 2 2 (FT.out _ H6.out w5.heap.size (Nat.le_refl _) (Blk.later (show Blk (w5.alloc (.cells #[.int .i64 r1.1.kind, .int .i64 r1.1.num, .slice a1 n1 c1, .int .i64 r2.1.kind, .int .i64 r2.1.num, .slice a2 n2 c2] 110)).drew w5.heap.size (tmCells r1.1 a1 n1 c1 ++ tmCells r2.1 a2 n2 c2) 110 from Blk.alloc (w := w5) (tmCells r1.1 a1 n1 c1 ++ tmCells r2.1 a2 n2 c2) _) hb6 (by show _ < (w5.alloc (.cells #[.int .i64 r1.1.kind, .int .i64 r1.1.num, .slice a1 n1 c1, .int .i64 r2.1.kind, .int .i64 r2.1.num, .slice a2 n2 c2] 110)).heap.size; simp))); obtain ⟨x0, x1, x2, x3, x4, x5, x6, x7, x8⟩ := FC.out w6 H6.out; clear hM hb6)
    | (go_at_call 98; (with_reducible refine fC2.mono ?_); rintro e w7 ⟨na, nc, rfl, hN, hb7⟩; have H7 := Lib.hid (H6.out.trans (hb7.mono H6.out.size)); have NB := Lib.hid (tms_later hb7 M6.out); have NA := Lib.hid hN; clear hN hb7; have hb7a := (Below.refl w7.heap.size w7).alloc (Nat.le_refl _) (.cells #[.int .i64 3, .int .i64 0, .slice na 1 nc, .int .i64 3, .int .i64 0, .slice ma 1 mc] 110); have H7a := Lib.hid (H7.out.trans (hb7a.mono H7.out.size)); obtain ⟨z0, z1, z2, z3, z4, z5, z6, z7, z8⟩ := FC.out w7 H7.out; have fD : Calls Tryz.prog 98 #[.agg #[.int .i64 4, .int .i64 0, .slice (some ⟨w7.heap.size, 0, none⟩) 2 2]] (w7.alloc (.cells #[.int .i64 3, .int .i64 0, .slice na 1 nc, .int .i64 3, .int .i64 0, .slice ma 1 mc] 110)) _ := FN.out _ H7a.out 4 (.mk 4 0 [tmNot (Tm.mk 4 0 [r1.1, r2.1]), tmNot r3.1]) _ 2 2 (two_terms (w := w7.alloc (.cells #[.int .i64 3, .int .i64 0, .slice na 1 nc, .int .i64 3, .int .i64 0, .slice ma 1 mc] 110)) (b := w7.heap.size) (T := 110) (t := tmNot (Tm.mk 4 0 [r1.1, r2.1])) (u := tmNot r3.1) (Blk.alloc (tmCells (tmNot (Tm.mk 4 0 [r1.1, r2.1])) na 1 nc ++ tmCells (tmNot r3.1) ma 1 mc) _) (okE_new P3.out H7.out.size (by simp)) (tms_later hb7a NA.out) (tms_later hb7a NB.out)); clear hb7a)
    | (go_at_call 98; (with_reducible refine fB1.mono ?_); rintro e w6 ⟨ma, mc, rfl, hM, hb6⟩; have H6 := Lib.hid (HB0.out.trans (hb6.mono HB0.out.size)); have M6 := Lib.hid hM; have hb6a := (Below.refl w6.heap.size w6).alloc (Nat.le_refl _) (.cells #[.int .i64 r1.1.kind, .int .i64 r1.1.num, .slice a1 n1 c1, .int .i64 r2.1.kind, .int .i64 r2.1.num, .slice a2 n2 c2] 110); have H6a := Lib.hid (H6.out.trans (hb6a.mono H6.out.size)); have M6a := Lib.hid (tms_later hb6a hM); have fB2 : Calls Tryz.prog 98 #[.agg #[.int .i64 4, .int .i64 0, .slice (some ⟨w6.heap.size, 0, none⟩) 2 2]] (w6.alloc (.cells #[.int .i64 r1.1.kind, .int .i64 r1.1.num, .slice a1 n1 c1, .int .i64 r2.1.kind, .int .i64 r2.1.num, .slice a2 n2 c2] 110)) _ := FN.out _ H6a.out 2 (Tm.mk 4 0 [r1.1, r2.1]) _ 2 2 (FT.out _ H6a.out w6.heap.size H6.out.size (Blk.alloc (tmCells r1.1 a1 n1 c1 ++ tmCells r2.1 a2 n2 c2) _)); obtain ⟨x0, x1, x2, x3, x4, x5, x6, x7, x8⟩ := FC.out w6 H6.out; obtain ⟨y0, y1, y2, y3, y4, y5, y6, y7, y8⟩ := FC.out _ H6a.out; clear hM hb6 hb6a)
    | (go_at_call 98; (with_reducible refine fB2.mono ?_); rintro e w7 ⟨na, nc, rfl, hN, hb7⟩; have H7 := Lib.hid (H6a.out.trans (hb7.mono H6a.out.size)); have NB := Lib.hid (tms_later hb7 M6a.out); have NA := Lib.hid hN; clear hN hb7; have hb7a := (Below.refl w7.heap.size w7).alloc (Nat.le_refl _) (.cells #[.int .i64 3, .int .i64 0, .slice na 1 nc, .int .i64 3, .int .i64 0, .slice ma 1 mc] 110); have H7a := Lib.hid (H7.out.trans (hb7a.mono H7.out.size)); obtain ⟨z0, z1, z2, z3, z4, z5, z6, z7, z8⟩ := FC.out w7 H7.out; have fD : Calls Tryz.prog 98 #[.agg #[.int .i64 4, .int .i64 0, .slice (some ⟨w7.heap.size, 0, none⟩) 2 2]] (w7.alloc (.cells #[.int .i64 3, .int .i64 0, .slice na 1 nc, .int .i64 3, .int .i64 0, .slice ma 1 mc] 110)) _ := FN.out _ H7a.out 4 (.mk 4 0 [tmNot (Tm.mk 4 0 [r1.1, r2.1]), tmNot r3.1]) _ 2 2 (two_terms (w := w7.alloc (.cells #[.int .i64 3, .int .i64 0, .slice na 1 nc, .int .i64 3, .int .i64 0, .slice ma 1 mc] 110)) (b := w7.heap.size) (T := 110) (t := tmNot (Tm.mk 4 0 [r1.1, r2.1])) (u := tmNot r3.1) (Blk.alloc (tmCells (tmNot (Tm.mk 4 0 [r1.1, r2.1])) na 1 nc ++ tmCells (tmNot r3.1) ma 1 mc) _) (okE_new P3.out H7.out.size (by simp)) (tms_later hb7a NA.out) (tms_later hb7a NB.out)); clear hb7a)
    | (go_at_call 98; (with_reducible refine fD.mono ?_); rintro e w8 ⟨da, dc, rfl, hD, hb8⟩; have H8 := Lib.hid (H7a.out.trans (hb8.mono H7a.out.size)); have N8 := Lib.hid hD; have R8 := Lib.hid (R3.out.later H8.out R3.out.lt); have K13 := (B13.out.later H8.out B13.out.lt).kept (grown_set3 w8 (w.heap.size + 1) (.int .i64 3) (.int .i64 0) (.slice da 1 dc)) (fun hh => (dist_ne P3.out.dist (i := 5) (j := 6) rfl rfl (by omega)) (Option.some.inj hh).symm); have K23 := (B23.out.later H8.out B23.out.lt).kept (grown_set3 w8 (w.heap.size + 1) (.int .i64 3) (.int .i64 0) (.slice da 1 dc)) (fun hh => (dist_ne P3.out.dist (i := 4) (j := 6) rfl rfl (by omega)) (Option.some.inj hh).symm); have K3 := (B3.out.later H8.out B3.out.lt).kept (grown_set3 w8 (w.heap.size + 1) (.int .i64 3) (.int .i64 0) (.slice da 1 dc)) (fun hh => by have := Option.some.inj hh; have := HWC.out; omega); have FS := Lib.hid (show (setAllE w8 (w.heap.size + 1) 0 [.int .i64 3, .int .i64 0, .slice da 1 dc]).cell? ⟨wa.heap.size, 0, none⟩ = some (.int .i64 r1.1.kind) ∧ (setAllE w8 (w.heap.size + 1) 0 [.int .i64 3, .int .i64 0, .slice da 1 dc]).cell? ⟨wa.heap.size, 1, none⟩ = some (.int .i64 r1.1.num) ∧ (setAllE w8 (w.heap.size + 1) 0 [.int .i64 3, .int .i64 0, .slice da 1 dc]).cell? ⟨wa.heap.size, 2, none⟩ = some (.slice a1 n1 c1) ∧ (setAllE w8 (w.heap.size + 1) 0 [.int .i64 3, .int .i64 0, .slice da 1 dc]).cell? ⟨wb.heap.size, 0, none⟩ = some (.int .i64 r2.1.kind) ∧ (setAllE w8 (w.heap.size + 1) 0 [.int .i64 3, .int .i64 0, .slice da 1 dc]).cell? ⟨wb.heap.size, 1, none⟩ = some (.int .i64 r2.1.num) ∧ (setAllE w8 (w.heap.size + 1) 0 [.int .i64 3, .int .i64 0, .slice da 1 dc]).cell? ⟨wb.heap.size, 2, none⟩ = some (.slice a2 n2 c2) ∧ (setAllE w8 (w.heap.size + 1) 0 [.int .i64 3, .int .i64 0, .slice da 1 dc]).cell? ⟨wc.heap.size, 0, none⟩ = some (.int .i64 r3.1.kind) ∧ (setAllE w8 (w.heap.size + 1) 0 [.int .i64 3, .int .i64 0, .slice da 1 dc]).cell? ⟨wc.heap.size, 1, none⟩ = some (.int .i64 r3.1.num) ∧ (setAllE w8 (w.heap.size + 1) 0 [.int .i64 3, .int .i64 0, .slice da 1 dc]).cell? ⟨wc.heap.size, 2, none⟩ = some (.slice a3 n3 c3) from ⟨K13.cell 0 _ rfl, K13.cell 1 _ rfl, K13.cell 2 _ rfl, K23.cell 0 _ rfl, K23.cell 1 _ rfl, K23.cell 2 _ rfl, K3.cell 0 _ rfl, K3.cell 1 _ rfl, K3.cell 2 _ rfl⟩); have t0 := R8.out.cell 0 _ rfl; have t1 := R8.out.cell 1 _ rfl; have t2 := R8.out.cell 2 _ rfl; have g0 := R8.out.frozen 0; have g1 := R8.out.frozen 1; have g2 := R8.out.frozen 2; clear hD hb8))
  all_goals
    go_wp2
    have F := setAll_blkE [.int .i64 3, .int .i64 0, .slice da 1 dc] 0 _ _ R8.out
    have rr0 := F.cell 0 _ rfl
    have rr1 := F.cell 1 _ rfl
    have rr2 := F.cell 2 _ rfl
    change bodyPost _ _ _ _ _ (setAllE w8 (w.heap.size + 1) 0 [.int .i64 3, .int .i64 0, .slice da 1 dc])
    refine bodyPost_ret (v := .agg #[.int .i64 3, .int .i64 0, .slice da 1 dc]) (by simp [results, Tryz.results62, go_sem, rr0, rr1, rr2]) rfl ?_
    exact term_ret (r := (tmNot (.mk 4 0 [tmNot (.mk 4 0 [r1.1, r2.1]), tmNot r3.1]), r3.2)) HB1.out (Nat.le_succ _) (tms_drops N8.out) (P3.out.later H8.out).drop.drop (G3.out.trans (PG.of_below H8.out)) (grown_set3 _ _ _ _ _) _ rfl
end

section
open Go.RowKit
set_option linter.unusedVariables false
set_option linter.unusedSimpArgs false
theorem pterm_any {d p base : Nat} {N : NmV} {nm : Nm} (hL : ListC d p base N nm) (f : Flat) (x : Lx d) {w : World} {st : PenS} {V : PV} {X : List (Option Nat)} {a : Option Addr} {n c : Nat} (h : PenAt w p base N nm st V X) (hx : RdL (· < p) d w a n c x) (ht : st.tot + 4 + cntL d x ≤ 1000000) :
    Calls Tryz.prog 62 #[.pointer (some ⟨p, 0, none⟩), sval f a n c] w (TermP 5 p base N nm X (penTerm (penL nm d) nm st (f, x)) V w) := by
  obtain ⟨kind, ns, pre, name, op, text, fold, mark, fa, fb⟩ := f
  by_cases h1 : kind = 1
  · subst h1; exact pterm_1 hL ns pre name op text fold mark fa fb x h hx ht
  by_cases h2 : kind = 2
  · subst h2; exact pterm_2 hL ns pre name op text fold mark fa fb x h hx ht
  by_cases h3 : kind = 3
  · subst h3; exact pterm_3 hL ns pre name op text fold mark fa fb x h hx ht
  by_cases h4 : kind = 4
  · subst h4; exact pterm_4 hL ns pre name op text fold mark fa fb x h hx ht
  by_cases h5 : kind = 5
  · subst h5; exact pterm_5 hL ns pre name op text fold mark fa fb x h hx ht
  by_cases h11 : kind = 11
  · subst h11; exact pterm_11 hL ns pre name op text fold mark fa fb x h hx ht
  by_cases h6 : kind = 6
  · subst h6; exact pterm_6 hL ns pre name op text fold mark fa fb x h hx ht
  by_cases h8 : kind = 8
  · subst h8; exact pterm_8 hL ns pre name op text fold mark fa fb x h hx ht
  by_cases h9 : kind = 9
  · subst h9; exact pterm_9 hL ns pre name op text fold mark fa fb x h hx ht
  by_cases h10 : kind = 10
  · subst h10; exact pterm_10 hL ns pre name op text fold mark fa fb x h hx ht
  by_cases h7 : kind = 7
  · subst h7; exact pterm_7 hL ns pre name op text fold mark fa fb x h hx ht
  by_cases h12 : kind = 12
  · subst h12; exact pterm_12 hL ns pre name op text fold mark fa fb x h hx ht
  exact pterm_else hL kind ns pre name op text fold mark fa fb x h hx ht h1 h2 h3 h4 h5 h11 h6 h8 h9 h10 h7 h12
set_option maxRecDepth 100000 in
set_option maxHeartbeats 4000000 in
theorem pseudo8_any {L : Type} {R : Option Addr → Nat → Nat → L → Prop} {w : World} {a : Option Addr} {n c : Nat} (x : List (Int × List (Flat × L))) (hx : RdX (· < w.heap.size) R w a n c x) :
    Calls Tryz.prog 61 #[.agg #[.slice a n c]] w (Told (.string (pseudoF x)) w) := by
  have hn := hx.1
  have hnm : n ≤ 140737488351232 := hx.2.2.1.2
  have hb0 := (Below.refl w.heap.size w).alloc (Nat.le_refl _) (.cells #[.slice a n c] 107)
  have HB0 := Lib.hid hb0
  have z0 := (Blk.alloc (w := w) [.slice a n c] 107).cell 0 _ rfl
  have hnI : (n : Int) ≤ 140737488351232 := by omega
  have HN := Lib.hid hn
  by_cases h0 : n = 0
  · have hxe : x = [] := List.length_eq_zero_iff.1 (by omega)
    rw [show pseudoF x = ⟨#[]⟩ from by rw [hxe]; rfl]
    subst h0
    clear hx hn hxe hb0
    go_enter Tryz.func61, Tryz.ntmps61
    go_wp2
    go_ret
    exact ⟨rfl, HB0.out⟩
  obtain ⟨m, hm⟩ : ∃ m, n = m + 1 := ⟨n - 1, by omega⟩
  obtain ⟨k, hk⟩ : ∃ k, x[m]? = some k := ⟨_, List.getElem?_eq_getElem (by omega)⟩
  have hlast : x.getLast? = some k := by rw [List.getLast?_eq_getElem?, ← hn, hm]; exact hk
  obtain ⟨b, off, rfl, hb, hk1, ka, kn, kc, hk2, hk3⟩ := hx.at m k hk
  have hkn := hk3.1
  have hknm : kn ≤ 140737488351232 := hk3.2.2.1.2
  have u0 : (w.alloc (.cells #[.slice (some ⟨b, off, none⟩) n c] 107)).cell? ⟨b, off + m * 2 + 1, none⟩ = some (.slice ka kn kc) := (HB0.out.cell (p := ⟨b, off + m * 2 + 1, none⟩) hb).trans hk2
  have u1 : (w.alloc (.cells #[.slice (some ⟨b, off, none⟩) n c] 107)).drew.cell? ⟨b, off + m * 2 + 1, none⟩ = some (.slice ka kn kc) := u0
  have q0 : ((n : Int) == 0) = false := beq_eq_false_iff_ne.2 (by omega)
  have q1 : ((n : Int) - 1) = (m : Int) := by omega
  have hmI : (0 : Int) ≤ (m : Int) := by omega
  have hmI2 : (m : Int) < (n : Int) := by omega
  clear hm
  by_cases hk0 : kn = 0
  · have hke : k.2 = [] := List.length_eq_zero_iff.1 (by omega)
    rw [show pseudoF x = ⟨#[]⟩ from by unfold pseudoF; rw [hlast]; dsimp only; rw [hke]; rfl]
    subst hk0
    clear hx hn hb0 hk hlast hk1 hk2 hk3 hke h0 HN hkn
    go_enter Tryz.func61, Tryz.ntmps61
    go_wp2
    go_ret
    exact ⟨rfl, HB0.out⟩
  obtain ⟨i, hi⟩ : ∃ i, kn = i + 1 := ⟨kn - 1, by omega⟩
  obtain ⟨⟨f, l⟩, hs⟩ : ∃ s, k.2[i]? = some s := ⟨_, List.getElem?_eq_getElem (by omega)⟩
  have hlast2 : k.2.getLast? = some (f, l) := by rw [List.getLast?_eq_getElem?, ← hkn, hi]; exact hs
  obtain ⟨b2, off2, rfl, hb2, hF, sa, sn, sc, hs10, _, _⟩ := hk3.at i (f, l) hs
  obtain ⟨f0, f1, f2, f3, f4, f5, f6, f7, f8, f9⟩ := hF
  have HV : ∀ o v, w.cell? ⟨b2, off2 + i * 11 + o, none⟩ = some v → (w.alloc (.cells #[.slice (some ⟨b, off, none⟩) n c] 107)).cell? ⟨b2, off2 + i * 11 + o, none⟩ = some v := fun o v h => (HB0.out.cell (p := ⟨b2, off2 + i * 11 + o, none⟩) hb2).trans h
  have e0 := HV 0 _ f0
  rw [Nat.add_zero] at e0
  have e1 := HV 1 _ f1
  have e2 := HV 2 _ f2
  have e3 := HV 3 _ f3
  have e4 := HV 4 _ f4
  have e5 := HV 5 _ f5
  have e6 := HV 6 _ f6
  have e7 := HV 7 _ f7
  have e8 := HV 8 _ f8
  have e9 := HV 9 _ f9
  have e10 := HV 10 _ hs10
  have qk : ((kn : Int) == 0) = false := beq_eq_false_iff_ne.2 (by omega)
  have qk1 : ((kn : Int) - 1) = (i : Int) := by omega
  have hiI : (0 : Int) ≤ (i : Int) := by omega
  have hiI2 : (i : Int) < (kn : Int) := by omega
  have hP : pseudoF x = if f.kind = 13 then f.name else ⟨#[]⟩ := by unfold pseudoF; rw [hlast]; dsimp only; rw [hlast2]
  rw [hP]
  have HL1 := Lib.hid (True.intro)
  clear hx hn hb0 hk hlast hlast2 hk1 hk2 hk3 h0 HN hkn hk0 hi hs f0 f1 f2 f3 f4 f5 f6 f7 f8 f9 hs10 HV hP
  by_cases h13 : f.kind = 13
  · rw [if_pos h13]
    have q13 : (f.kind != 13) = false := by simp [h13]
    go_enter Tryz.func61, Tryz.ntmps61
    go_wp2
    go_region
    all_goals
      go_wp2
      go_ret
      exact ⟨rfl, (HB0.out.alloc HB0.out.size _).drew⟩
  · rw [if_neg h13]
    have q13 : (f.kind != 13) = true := bne_iff_ne.2 h13
    go_enter Tryz.func61, Tryz.ntmps61
    go_wp2
    go_region
    all_goals
      go_wp2
      go_ret
      exact ⟨rfl, (HB0.out.alloc HB0.out.size _).drew⟩
end
end Go.Proofs.YtcfhggdiccilaaaGreat
