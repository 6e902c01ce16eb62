/- Texts of mine in one: Ey9. -/
import Derived.Test.YtcfhggdiccilaaaGreatQ11
namespace Go.Proofs.YtcfhggdiccilaaaGreat
section
open Go.RowKit
set_option linter.unusedVariables false
set_option linter.unusedSimpArgs false
theorem rsS_keep {d p base : Nat} {w w' : World} {a : Option Addr} {n c : Nat} {out : List (Sm d)} (h : RsOf (okN base w) 11 (SimpleAt (RdL (okN base w) d w) w) a n c out) (hp : p < base) (hg : GB w w' p) : RsOf (okN base w') 11 (SimpleAt (RdL (okN base w') d w') w') a n c out := by
  have ho : ∀ b, okN base w b → okN base w' b ∧ w'.heap[b]? = w.heap[b]? := fun b hb => ⟨⟨hb.1, Nat.lt_of_lt_of_le hb.2 hg.size⟩, hg.block b hb.2 (fun e => by have := Option.some.inj e; have := hb.1; omega)⟩
  exact RsOf.imp h (fun b hb => (ho b hb).1) (fun b o x hb hx => hx.move (ho b hb).2 (fun _ _ _ _ hl => RdL.move ho hl))
theorem ECP_end {d p : Nat} {E : Ey} {ts : List Tk} {ps : List ByteArray} {w wr w' : World} {F : Func} {a : Act} {va : Option Addr} {vc nn to : Nat} {b : Bool} {out : List (Sm d)} {st' : Es}
    (hr : (results F a.tmps).run Tryz.prog w' = .ok (.tuple #[.slice va nn vc, .int .i64 (to : Nat), .bool b]) w') (hn : out.length = nn) (hR : RsOf (okN w.heap.size wr) 11 (SimpleAt (RdL (okN w.heap.size wr) d wr) wr) va nn vc out) (hp : p < w.heap.size) (hg : GB w w' p) (hg2 : GB wr w' p) (hE : EyeAt w' p E ts ps st') (hd : a.defers = []) :
    bodyPost Tryz.prog F (ECP p E ts ps (out, to, b, st') w) Exit.ret a w' := by
  subst hn
  exact bodyPost_ret hr hd ⟨va, vc, rfl, rsS_keep hR hp hg2, hE, hg⟩
theorem own_blkG {α : Type} {T : TypeId} {sz : Nat} {cel : α → Option Addr → Nat → Nat → List Value} {R : (Nat → Prop) → World → Option Addr → Nat → Nat → α → Prop} {w : World} {base g : Nat} {v : Value} {out : List α} (h : RowG T sz cel R w base v out) (hv : v.ownBlock = some g) : base ≤ g ∧ g < w.heap.size := by
  obtain ⟨ys, _, ⟨_, ⟨rfl, _⟩ | ⟨g', cap, cur, rfl, hb, hc, _⟩⟩, _⟩ := h
  · cases hv
  · obtain rfl := Option.some.inj hv
    exact ⟨hb, (Array.getElem?_eq_some_iff.1 hc).1⟩
theorem gb_own {w w7 w8 : World} {p : Nat} {row : Option Nat} (h : GB w w7 p) (hg : w7.grownBy w8 row) (hr : ∀ g, row = some g → w.heap.size ≤ g) : GB w w8 p :=
  ⟨hg.os.trans h.os, hg.tape.trans h.tape, hg.output.trans h.output, Nat.le_trans h.size hg.size, fun i hi hne => (hg.block i (Nat.lt_of_lt_of_le hi h.size) (fun e => by have := hr i e.symm; omega)).trans (h.block i hi hne)⟩
theorem x_moves {d : Nat} {wr w5 w6 w7 : World} {base : Nat} {v : Value} {xa : Option Addr} {xn xc : Nat} {x : Sm d} (hb : base ≤ wr.heap.size) (ho : ∀ g, v.ownBlock = some g → base ≤ g ∧ g < wr.heap.size) (h : RS d (okN wr.heap.size w5) w5 xa xn xc x) (h6 : Below w5.heap.size w5 w6) (h7 : Below w6.heap.size w6 w7) : RS d (okR w7 base v) w7 xa xn xc x :=
  RS_moves d _ _ _ _ _ _ _ _ (fun b hb' => ⟨⟨Nat.le_trans hb hb'.1, Nat.lt_of_lt_of_le hb'.2 (Nat.le_trans h6.size h7.size), fun e => by have := (ho b e).2; have := hb'.1; omega⟩, (h7.block b (Nat.lt_of_lt_of_le hb'.2 h6.size)).trans (h6.block b hb'.2)⟩) h
theorem owns_grown {w w' : World} {base n sz : Nat} {T : TypeId} {v : Value} {xs : List Value} {row : Option Nat} (hg : w.grownBy w' row) (hne : ∀ g, v.ownBlock = some g → row ≠ some g) (h : w.ownsRow base T sz v n xs) : w'.ownsRow base T sz v n xs := by
  obtain ⟨h1, h2 | ⟨g, cap, cur, rfl, hb', hc, r⟩⟩ := h
  · exact ⟨h1, .inl h2⟩
  · exact ⟨h1, .inr ⟨g, cap, cur, rfl, hb', (hg.block g (Array.getElem?_eq_some_iff.1 hc).1 (fun e => hne g rfl e.symm)).trans hc, r⟩⟩
theorem owns_emptyE {w : World} {g base : Nat} {e : TypeId} (sz : Nat) (h : w.heap[g]? = some (.cells #[] e (0, 0))) (hb : base ≤ g) : w.ownsRow base e sz (.slice (some ⟨g, 0, none⟩) 0 0) 0 [] :=
  ⟨by simp, .inr ⟨g, 0, #[], rfl, hb, h, Nat.le_refl _, by simp [maxLen], by simp, by simp⟩⟩
theorem owns_laterE {w w' : World} {base n sz : Nat} {T : TypeId} {v : Value} {xs : List Value} (hb : Below w.heap.size w w') (h : w.ownsRow base T sz v n xs) : w'.ownsRow base T sz v n xs := by
  obtain ⟨h1, h2 | ⟨g, cap, cur, hv, hb', hc, r⟩⟩ := h
  · exact ⟨h1, .inl h2⟩
  · exact ⟨h1, .inr ⟨g, cap, cur, hv, hb', (hb.block g (Array.getElem?_eq_some_iff.1 hc).1).trans hc, r⟩⟩
theorem TryzinfoSmp : (Tryz.prog.info? 118).map (fun i => (i.zero, i.size, i.bytes)) = some (some (.agg #[.int .i64 0, .int .i64 0, .string ⟨#[]⟩, .string ⟨#[]⟩, .int .i64 0, .string ⟨#[]⟩, .bool false, .int .i64 0, .int .i64 0, .int .i64 0, .slice none 0 0]), 11, 128) := by kernel_rfl
set_option maxRecDepth 100000 in
set_option maxHeartbeats 8000000 in
theorem ecompound_any {d p : Nat} {E : Ey} {ts : List Tk} {ps : List ByteArray} {deep end' : Int} {S : Nat → Es → List (Sm d) → Option (Sm d × Nat × Es)} (hS : SimpleC d p E ts ps (end' == 0) deep S) {w : World} {st : Es} (h : EyeAt w p E ts ps st) (i : Nat) (hi2 : i ≤ 2999990) (RR : List (Sm d) × Nat × Bool × Es) (hRR : eCompound S ts ps st i = some RR) :
    Calls Tryz.prog 69 #[.pointer (some ⟨p, 0, none⟩), .int .i64 i, .int .i64 end', .int .i64 deep] w (ECP p E ts ps RR w) := by
  obtain ⟨iS, hiS, hzS⟩ := Option.map_eq_some_iff.1 TryzinfoSmp
  simp only [Prod.mk.injEq] at hzS
  have HIS := Lib.hid (And.intro hiS hzS)
  clear hiS hzS
  have HE := Lib.hid h
  have HSC := Lib.hid hS
  have HI := Lib.hid hi2
  have hsm := h.small
  obtain ⟨ns, pre, k, st1, hP, hk⟩ := ePlaced_shape ts ps st i false
  have hb0 := (Below.refl w.heap.size w).alloc (Nat.le_refl _) (.cells #[] 118)
  have hlt := h.blk.lt
  have HLT := Lib.hid hlt
  have fP := eplaced_any (h.later hb0) i (by omega) false
  rw [hP] at fP
  have fP := fP.mono (R' := fun e w1 => e = .returned (.tuple #[.agg #[.int .i64 0, .int .i64 ns, .string pre, .string ⟨#[]⟩, .int .i64 0, .string ⟨#[]⟩, .bool false, .int .i64 0, .int .i64 0, .int .i64 0, .slice none 0 0], .int .i64 (k : Nat)]) ∧ EyeAt w1 p E ts ps st1 ∧ GB (w.alloc (.cells #[] 118)) w1 p) (fun e w' h => h)
  have HB0 := Lib.hid hb0
  have HO0 := Lib.hid (owns_emptyE (base := w.heap.size) 11 (heap_alloc_new w (.cells #[] 118)) (Nat.le_refl _))
  have HRR := Lib.hid hRR
  have HSM := Lib.hid hsm
  have HK := Lib.hid (show k ≤ 2999992 from by omega)
  unfold eCompound at HRR
  rw [hP] at HRR
  dsimp only at HRR
  have hkI : (k : Int) ≤ 2999992 := by omega
  clear h hS hi2 hP hk hb0 hRR hsm hlt
  obtain ⟨nm, hnm⟩ : ∃ nm, eName ts k = nm := ⟨_, rfl⟩
  have HNM := Lib.hid hnm
  rw [hnm] at HRR
  obtain ⟨sg, hsg⟩ : ∃ sg, eSign ts k ⟨#[42]⟩ = sg := ⟨_, rfl⟩
  have HSG := Lib.hid hsg
  rw [hsg] at HRR
  clear hnm hsg
  cases nm with
  | true =>
    rw [if_pos rfl] at HRR
    obtain ⟨tx, htx⟩ : ∃ tx, strOfNums (eTok ts k).text = tx := ⟨_, rfl⟩
    have HTX := Lib.hid htx
    have hfd := fld_text (eTok ts k).kind (eTok ts k).frm (eTok ts k).to tx (strOfNums (eTok ts k).num) (eTok ts k).whole
    rw [htx] at HRR
    clear htx
    obtain ⟨xF, hxF⟩ : ∃ xF : Flat, (⟨1, ns, pre, tx, 0, ⟨#[]⟩, false, 0, 0, 0⟩ : Flat) = xF := ⟨_, rfl⟩
    have HXF := Lib.hid hxF.symm
    have hR2 : (if FlatOk xF then compGo S ts (ts.length + 10) (k + 1) st1 [(xF, emptyL d)] else none) = some RR := by
      have := HRR.out
      rw [← hxF]
      exact this
    have hfo : FlatOk xF := by
      by_cases hq : FlatOk xF
      · exact hq
      · rw [if_neg hq] at hR2; cases hR2
    rw [if_pos hfo] at hR2
    have HRR := Lib.hid hR2
    have HFO := Lib.hid hfo
    clear hR2 hfo hxF
    go_enter Tryz.func69, Tryz.ntmps69
    go_wp2_with (first
      | (go_at_call 102; (with_reducible refine fP.mono ?_); rintro e w1 ⟨rfl, h1, hg1⟩; have O1 := (owns_keep HLT.out hg1 HO0.out).alloc (.cells #[.int .i64 0, .int .i64 ns, .string pre, .string ⟨#[]⟩, .int .i64 0, .string ⟨#[]⟩, .bool false, .int .i64 0, .int .i64 0, .int .i64 0, .slice none 0 0] 118); have h2 := h1.later ((Below.refl _ _).alloc (Nat.le_refl _) (.cells #[.int .i64 0, .int .i64 ns, .string pre, .string ⟨#[]⟩, .int .i64 0, .string ⟨#[]⟩, .bool false, .int .i64 0, .int .i64 0, .int .i64 0, .slice none 0 0] 118)); have D2 := Lib.hid (show Blk (w1.alloc (.cells #[.int .i64 0, .int .i64 ns, .string pre, .string ⟨#[]⟩, .int .i64 0, .string ⟨#[]⟩, .bool false, .int .i64 0, .int .i64 0, .int .i64 0, .slice none 0 0] 118)) w1.heap.size [.int .i64 0, .int .i64 ns, .string pre, .string ⟨#[]⟩, .int .i64 0, .string ⟨#[]⟩, .bool false, .int .i64 0, .int .i64 0, .int .i64 0, .slice none 0 0] 118 from Blk.alloc [.int .i64 0, .int .i64 ns, .string pre, .string ⟨#[]⟩, .int .i64 0, .string ⟨#[]⟩, .bool false, .int .i64 0, .int .i64 0, .int .i64 0, .slice none 0 0] _); have HG2 := Lib.hid (show GB w (w1.alloc (.cells #[.int .i64 0, .int .i64 ns, .string pre, .string ⟨#[]⟩, .int .i64 0, .string ⟨#[]⟩, .bool false, .int .i64 0, .int .i64 0, .int .i64 0, .slice none 0 0] 118)) p from ((GB.of_below HB0.out).trans hg1).trans (GB.of_below ((Below.refl _ _).alloc (Nat.le_refl _) (.cells #[.int .i64 0, .int .i64 ns, .string pre, .string ⟨#[]⟩, .int .i64 0, .string ⟨#[]⟩, .bool false, .int .i64 0, .int .i64 0, .int .i64 0, .slice none 0 0] 118)))); have HO2 := Lib.hid O1; have H2 := Lib.hid h2; have HW1 := Lib.hid (show w.heap.size < w1.heap.size from Nat.lt_of_lt_of_le (by simp) hg1.size); have f2 := ename_any h2 k (by have := HK.out; omega); rw [HNM.out] at f2; clear O1 h1 h2 hg1)
      | (go_at_call 103; (with_reducible refine f2.mono ?_); rintro e w3 ⟨rfl, hb3⟩; have D3 := D2.out.later hb3 D2.out.lt; have d0 := D3.cell 0 _ rfl; have e0 := D3.frozen 0; have hne1 : p ≠ w1.heap.size := (by have := HLT.out; have := HW1.out; omega); have hno1 : ∀ g, (Value.slice (some ⟨w.heap.size, 0, none⟩) 0 0).ownBlock = some g → (some w1.heap.size : Option Nat) ≠ some g := (fun g hg hh => by have h1 := Option.some.inj hg; have h2 := Option.some.inj hh; have := HW1.out; simp only at h1; omega); have hgs3 := grown_setCell w3 w1.heap.size 0 (.int .i64 1); have HB3 := Lib.hid ((H2.out.later hb3).blk.kept hgs3 (fun hh => hne1 (Option.some.inj hh).symm)); have HO3 := Lib.hid (owns_grown hgs3 hno1 (owns_laterE hb3 HO2.out)); have HG3 := Lib.hid (gb_own (HG2.out.trans (GB.of_below hb3)) hgs3 (fun g hg => by have := Option.some.inj hg; have := HW1.out; omega)); have H3 := Lib.hid (HE.out.grown HG3.out HB3.out); have E3 := Lib.hid (D3.setCell 0 (.int .i64 1)); have f3 := tok_any H3.out k (by have := HK.out; omega); rw [tkV_eq, HTX.out] at f3; clear D3)
      | (go_at_call 55; (with_reducible refine f3.mono ?_); rintro e w4 ⟨rfl, hb4⟩; have D4 := E3.out.later hb4 E3.out.lt; have e3 := D4.frozen 3; have hne1 : p ≠ w1.heap.size := (by have := HLT.out; have := HW1.out; omega); have hno1 : ∀ g, (Value.slice (some ⟨w.heap.size, 0, none⟩) 0 0).ownBlock = some g → (some w1.heap.size : Option Nat) ≠ some g := (fun g hg hh => by have h1 := Option.some.inj hg; have h2 := Option.some.inj hh; have := HW1.out; simp only at h1; omega); have hgs4 := grown_setCell w4 w1.heap.size 3 (.string tx); have HB4 := Lib.hid ((H3.out.later hb4).blk.kept hgs4 (fun hh => hne1 (Option.some.inj hh).symm)); have HO4 := Lib.hid (owns_grown hgs4 hno1 (owns_laterE hb4 HO3.out)); have HG4 := Lib.hid (gb_own (HG3.out.trans (GB.of_below hb4)) hgs4 (fun g hg => by have := Option.some.inj hg; have := HW1.out; omega)); have H4 := Lib.hid (HE.out.grown HG4.out HB4.out); have E4 := Lib.hid (D4.setCell 3 (.string tx)); have k0 := E4.out.cell 0 _ rfl; have k1 := E4.out.cell 1 _ rfl; have k2 := E4.out.cell 2 _ rfl; have k3 := E4.out.cell 3 _ rfl; have k4 := E4.out.cell 4 _ rfl; have k5 := E4.out.cell 5 _ rfl; have k6 := E4.out.cell 6 _ rfl; have k7 := E4.out.cell 7 _ rfl; have k8 := E4.out.cell 8 _ rfl; have k9 := E4.out.cell 9 _ rfl; have k10 := E4.out.cell 10 _ rfl; have m0 := D4.cell 0 _ rfl; have m1 := D4.cell 1 _ rfl; have m2 := D4.cell 2 _ rfl; have m3 := D4.cell 3 _ rfl; have m4 := D4.cell 4 _ rfl; have m5 := D4.cell 5 _ rfl; have m6 := D4.cell 6 _ rfl; have m7 := D4.cell 7 _ rfl; have m8 := D4.cell 8 _ rfl; have m9 := D4.cell 9 _ rfl; have m10 := D4.cell 10 _ rfl; clear D4)
      | (at_builtin; have hb5 := (Below.refl (w4.setCell ⟨w1.heap.size, 3, none⟩ (.string tx)).heap.size (w4.setCell ⟨w1.heap.size, 3, none⟩ (.string tx))).alloc (Nat.le_refl _) (.cells #[.int .i64 1, .int .i64 ns, .string pre, .string tx, .int .i64 0, .string ⟨#[]⟩, .bool false, .int .i64 0, .int .i64 0, .int .i64 0, .slice none 0 0] 118); have E7 : Blk ((w4.setCell ⟨w1.heap.size, 3, none⟩ (.string tx)).alloc (.cells #[.int .i64 1, .int .i64 ns, .string pre, .string tx, .int .i64 0, .string ⟨#[]⟩, .bool false, .int .i64 0, .int .i64 0, .int .i64 0, .slice none 0 0] 118)) w4.heap.size [.int .i64 1, .int .i64 ns, .string pre, .string tx, .int .i64 0, .string ⟨#[]⟩, .bool false, .int .i64 0, .int .i64 0, .int .i64 0, .slice none 0 0] 118 := (by have hh : Blk ((w4.setCell ⟨w1.heap.size, 3, none⟩ (.string tx)).alloc (.cells #[.int .i64 1, .int .i64 ns, .string pre, .string tx, .int .i64 0, .string ⟨#[]⟩, .bool false, .int .i64 0, .int .i64 0, .int .i64 0, .slice none 0 0] 118)) (w4.setCell ⟨w1.heap.size, 3, none⟩ (.string tx)).heap.size [.int .i64 1, .int .i64 ns, .string pre, .string tx, .int .i64 0, .string ⟨#[]⟩, .bool false, .int .i64 0, .int .i64 0, .int .i64 0, .slice none 0 0] 118 := Blk.alloc [.int .i64 1, .int .i64 ns, .string pre, .string tx, .int .i64 0, .string ⟨#[]⟩, .bool false, .int .i64 0, .int .i64 0, .int .i64 0, .slice none 0 0] _; simpa using hh); have HG7 := HG4.out.trans (GB.of_below hb5); have H7 := H4.out.later hb5; refine wpList_append_row2 rfl _ _ 112 rfl w.heap.size 118 iS _ 11 128 Tryz.underlying112 HIS.out.1 HIS.out.2.1 rfl (by decide) HIS.out.2.2.1 HIS.out.2.2.2 (.slice (some ⟨w.heap.size, 0, none⟩) 0 0) 0 [] rfl (owns_laterE hb5 HO4.out) ⟨w4.heap.size, 0, none⟩ 1 (celS (d := d) (xF, emptyL d) none 0 0) rfl rfl (celS_one _ _ _ _) (fun j u hu => by rw [show (⟨w4.heap.size, 0, none⟩ : Addr).add j = ⟨w4.heap.size, j, none⟩ from by simp [Addr.add]; intro hj; exact hj.symm]; exact E7.cell j u (by rw [← hu, HXF.out]; rfl)) (by unfold maxLen; omega) (by omega) (by have := HG7.size; omega) ?_; intro v8 w8 hown8 hgr8 hv8; have HR8 := Lib.hid (RowG.snoc (cel := celS) (R := RS d) (RS_moves d) (ys := []) (out := []) rfl (by simp) ⟨HFO.out, emptyL_rd d⟩ hown8 hgr8 hv8); have HG8 := Lib.hid (gb_own HG7 hgr8 (fun g hg => by have := Option.some.inj hg; simp only at this; omega)); have HB8 := Lib.hid (H7.blk.kept hgr8 (fun hh => by have := Option.some.inj hh; simp only at this; have := HLT.out; omega)); clear hown8 hgr8 hv8 hb5 E7 HG7 H7)
      | fail)
    go_loopw [11, 13] (fun v i wr => ∃ (kk : Nat) (st' : Es) (out : List (Sm d)) (f : Nat), i = .int .i64 kk ∧ Hid (RowG 118 11 celS (RS d) wr w.heap.size v out) ∧ Hid (EyeAt wr p E ts ps st') ∧ Hid (GB w wr p) ∧ Hid (kk ≤ 3000000 ∧ f + out.length ≤ 1000011) ∧ Hid (compGo S ts f kk st' out = some RR)) (fun v _ _ => 1000011 - lenV v)
    case atStart => exact ⟨k + 1, st1, [(xF, emptyL d)], ts.length + 10, rfl, HR8, Lib.hid (HE.out.grown HG8.out HB8.out), HG8, Lib.hid ⟨by have := HK.out; omega, by have := HSM.out; show _ + 1 ≤ _; omega⟩, HRR⟩
    case round =>
      obtain ⟨kk, st', out, f, rfl, HR, HEr, HGr, HKr, HM⟩ := hrel
      have hLV := HR.out.lenV
      have hkk := HKr.out.1
      have hkkI : (kk : Int) ≤ 3000000 := by omega
      have c5 := HEr.out.blk.cell 5 _ rfl
      obtain ⟨va, vc, rfl, hRd⟩ := HR.out.rd (RS_moves d) celS_len (by have := HKr.out.2; omega)
      obtain ⟨f, rfl⟩ : ∃ g, f = g + 1 := by
        cases f with
        | zero => exact absurd HM.out (by unfold compGo; simp)
        | succ g => exact ⟨g, rfl⟩
      have hM := HM.out
      unfold compGo at hM
      have HRd := Lib.hid (RsOf.imp hRd (fun b hb => hb) (fun b o x hb hx => RS.simple hx))
      have hnI : out.length ≤ 1000010 := by have := HKr.out.2; omega
      have HNI := Lib.hid hnI
      have HF := Lib.hid (show f + 1 + out.length ≤ 1000011 from HKr.out.2)
      clear hRd HM HKr hLV hkk
      by_cases he : st'.err = 0
      · rw [if_pos he] at hM
        have q : (st'.err == 0) = true := beq_iff_eq.2 he
        cases hSk : S kk st' out with
        | none => rw [hSk] at hM; cases hM
        | some x =>
          obtain ⟨⟨xf, xl⟩, to, st2⟩ := x
          rw [hSk] at hM
          dsimp only at hM
          have fS := HSC.out wr st' kk out va vc HEr.out (by omega) (RsOf.imp HRd.out (fun b hb => ⟨hb.2, by have := hb.1; have := HLT.out; omega⟩) (fun b o x hb hx => hx.move rfl (fun _ _ _ _ hl => RdL.move (fun b hb => ⟨⟨hb.2, by have := hb.1; have := HLT.out; omega⟩, rfl⟩) hl))) _ hSk
          have fS := fS.mono (R' := fun e w5 => ∃ xa xn xc, e = .returned (.tuple #[.agg #[.int .i64 xf.kind, .int .i64 xf.ns, .string xf.pre, .string xf.name, .int .i64 xf.op, .string xf.text, .bool xf.fold, .int .i64 xf.mark, .int .i64 xf.a, .int .i64 xf.b, .slice xa xn xc], .int .i64 (to : Nat)]) ∧ RS d (okN wr.heap.size w5) w5 xa xn xc (xf, xl) ∧ EyeAt w5 p E ts ps st2 ∧ GB wr w5 p) (fun e w' h => h)
          clear he hSk
          by_cases ht : to = kk
          · subst ht
            rw [if_pos rfl] at hM
            have q2 : ((to : Int) == (to : Int)) = true := beq_self_eq_true _
            obtain rfl := Option.some.inj hM
            clear hM
            obtain ⟨nn, hnn⟩ : ∃ nn, out.length = nn := ⟨_, rfl⟩
            have HRd := Lib.hid (hnn ▸ HRd.out : RsOf (okN w.heap.size wr) 11 (SimpleAt (RdL (okN w.heap.size wr) d wr) wr) va nn vc out)
            rw [hnn] at fS hnI ⊢
            have HNN := Lib.hid hnn
            clear hnn
            by_cases h0 : nn = 0
            · subst h0
              have HZ := Lib.hid (show compEnd ts st2 out.length to = eFail ts st2 10 to from by rw [HNN.out]; exact if_pos rfl)
              go_wp2_with (first
                | (go_at_call 105; (with_reducible refine fS.mono ?_); rintro e w5 ⟨xa, xn, xc, rfl, hxr, h5, hg5⟩; have H5 := Lib.hid (h5.later ((Below.refl _ _).alloc (Nat.le_refl _) (.cells #[.int .i64 xf.kind, .int .i64 xf.ns, .string xf.pre, .string xf.name, .int .i64 xf.op, .string xf.text, .bool xf.fold, .int .i64 xf.mark, .int .i64 xf.a, .int .i64 xf.b, .slice xa xn xc] 118))); have HG5 := Lib.hid (hg5.trans (GB.of_below ((Below.refl _ _).alloc (Nat.le_refl _) (.cells #[.int .i64 xf.kind, .int .i64 xf.ns, .string xf.pre, .string xf.name, .int .i64 xf.op, .string xf.text, .bool xf.fold, .int .i64 xf.mark, .int .i64 xf.a, .int .i64 xf.b, .slice xa xn xc] 118)))); clear h5 hg5 hxr; have f9 := efail_any H5.out 10 to (by omega))
                | (go_at_call 56; go_loud (with_reducible refine f9.mono ?_); rintro e w9 ⟨rfl, h9, hg9⟩))
              exact ECP_end (by simp [results, Tryz.results69, go_sem]) HNN.out HRd.out HLT.out ((HGr.out.trans HG5.out).trans hg9) ((HG5.out).trans hg9) (by rw [HZ.out]; exact h9) rfl
            · have hn0 : ((nn : Int) == 0) = false := beq_eq_false_iff_ne.2 (by omega)
              have HZ := Lib.hid (show compEnd ts st2 out.length to = st2 from by rw [HNN.out]; exact if_neg h0)
              go_wp2_with (first
                | (go_at_call 105; (with_reducible refine fS.mono ?_); rintro e w5 ⟨xa, xn, xc, rfl, hxr, h5, hg5⟩; have H5 := Lib.hid (h5.later ((Below.refl _ _).alloc (Nat.le_refl _) (.cells #[.int .i64 xf.kind, .int .i64 xf.ns, .string xf.pre, .string xf.name, .int .i64 xf.op, .string xf.text, .bool xf.fold, .int .i64 xf.mark, .int .i64 xf.a, .int .i64 xf.b, .slice xa xn xc] 118))); have HG5 := Lib.hid (hg5.trans (GB.of_below ((Below.refl _ _).alloc (Nat.le_refl _) (.cells #[.int .i64 xf.kind, .int .i64 xf.ns, .string xf.pre, .string xf.name, .int .i64 xf.op, .string xf.text, .bool xf.fold, .int .i64 xf.mark, .int .i64 xf.a, .int .i64 xf.b, .slice xa xn xc] 118)))); clear h5 hg5 hxr; skip)
                | fail)
              exact ECP_end (by simp [results, Tryz.results69, go_sem]) HNN.out HRd.out HLT.out (HGr.out.trans HG5.out) (HG5.out) (by rw [HZ.out]; exact H5.out) rfl
          · rw [if_neg ht] at hM
            have q2 : ((to : Int) == (kk : Int)) = false := beq_eq_false_iff_ne.2 (by omega)
            by_cases hto : to ≤ 3000000
            · rw [if_pos hto] at hM
              have htI : (to : Int) ≤ 3000000 := by omega
              have HM2 := Lib.hid hM
              have HTO := Lib.hid hto
              clear hM ht hto
              have HOB := Lib.hid (fun g (hg : (Value.slice va out.length vc).ownBlock = some g) => own_blkG HR.out hg)
              by_cases h13 : xf.kind = 13
              · have k13 : (xf.kind == 13) = true := beq_iff_eq.2 h13
                have HM3 := Lib.hid (show some (out ++ [(xf, xl)], to, true, st2) = some RR from by have := HM2.out; rwa [if_pos h13] at this)
                clear h13
                go_wp2_with (first
                  | (go_at_call 105; (with_reducible refine fS.mono ?_); rintro e w5 ⟨xa, xn, xc, rfl, hxr, h5, hg5⟩; have hg6 : GB wr (w5.alloc (.cells #[.int .i64 xf.kind, .int .i64 xf.ns, .string xf.pre, .string xf.name, .int .i64 xf.op, .string xf.text, .bool xf.fold, .int .i64 xf.mark, .int .i64 xf.a, .int .i64 xf.b, .slice xa xn xc] 118)) p := hg5.trans (GB.of_below ((Below.refl _ _).alloc (Nat.le_refl _) (.cells #[.int .i64 xf.kind, .int .i64 xf.ns, .string xf.pre, .string xf.name, .int .i64 xf.op, .string xf.text, .bool xf.fold, .int .i64 xf.mark, .int .i64 xf.a, .int .i64 xf.b, .slice xa xn xc] 118))); have hg7 : GB wr ((w5.alloc (.cells #[.int .i64 xf.kind, .int .i64 xf.ns, .string xf.pre, .string xf.name, .int .i64 xf.op, .string xf.text, .bool xf.fold, .int .i64 xf.mark, .int .i64 xf.a, .int .i64 xf.b, .slice xa xn xc] 118)).alloc (.cells #[.int .i64 xf.kind, .int .i64 xf.ns, .string xf.pre, .string xf.name, .int .i64 xf.op, .string xf.text, .bool xf.fold, .int .i64 xf.mark, .int .i64 xf.a, .int .i64 xf.b, .slice xa xn xc] 118)) p := hg6.trans (GB.of_below ((Below.refl _ _).alloc (Nat.le_refl _) (.cells #[.int .i64 xf.kind, .int .i64 xf.ns, .string xf.pre, .string xf.name, .int .i64 xf.op, .string xf.text, .bool xf.fold, .int .i64 xf.mark, .int .i64 xf.a, .int .i64 xf.b, .slice xa xn xc] 118))); have HR7 := Lib.hid (HR.out.keep (RS_moves d) HLT.out hg7); have h7 := (h5.later ((Below.refl _ _).alloc (Nat.le_refl _) (.cells #[.int .i64 xf.kind, .int .i64 xf.ns, .string xf.pre, .string xf.name, .int .i64 xf.op, .string xf.text, .bool xf.fold, .int .i64 xf.mark, .int .i64 xf.a, .int .i64 xf.b, .slice xa xn xc] 118))).later ((Below.refl _ _).alloc (Nat.le_refl _) (.cells #[.int .i64 xf.kind, .int .i64 xf.ns, .string xf.pre, .string xf.name, .int .i64 xf.op, .string xf.text, .bool xf.fold, .int .i64 xf.mark, .int .i64 xf.a, .int .i64 xf.b, .slice xa xn xc] 118)); have H7 := Lib.hid h7; have D7 := Lib.hid (show Blk ((w5.alloc (.cells #[.int .i64 xf.kind, .int .i64 xf.ns, .string xf.pre, .string xf.name, .int .i64 xf.op, .string xf.text, .bool xf.fold, .int .i64 xf.mark, .int .i64 xf.a, .int .i64 xf.b, .slice xa xn xc] 118)).alloc (.cells #[.int .i64 xf.kind, .int .i64 xf.ns, .string xf.pre, .string xf.name, .int .i64 xf.op, .string xf.text, .bool xf.fold, .int .i64 xf.mark, .int .i64 xf.a, .int .i64 xf.b, .slice xa xn xc] 118)) w5.heap.size [.int .i64 xf.kind, .int .i64 xf.ns, .string xf.pre, .string xf.name, .int .i64 xf.op, .string xf.text, .bool xf.fold, .int .i64 xf.mark, .int .i64 xf.a, .int .i64 xf.b, .slice xa xn xc] 118 from (Blk.alloc [.int .i64 xf.kind, .int .i64 xf.ns, .string xf.pre, .string xf.name, .int .i64 xf.op, .string xf.text, .bool xf.fold, .int .i64 xf.mark, .int .i64 xf.a, .int .i64 xf.b, .slice xa xn xc] _).alloc_old (.cells #[.int .i64 xf.kind, .int .i64 xf.ns, .string xf.pre, .string xf.name, .int .i64 xf.op, .string xf.text, .bool xf.fold, .int .i64 xf.mark, .int .i64 xf.a, .int .i64 xf.b, .slice xa xn xc] 118)); have E7 := Lib.hid (show Blk ((w5.alloc (.cells #[.int .i64 xf.kind, .int .i64 xf.ns, .string xf.pre, .string xf.name, .int .i64 xf.op, .string xf.text, .bool xf.fold, .int .i64 xf.mark, .int .i64 xf.a, .int .i64 xf.b, .slice xa xn xc] 118)).alloc (.cells #[.int .i64 xf.kind, .int .i64 xf.ns, .string xf.pre, .string xf.name, .int .i64 xf.op, .string xf.text, .bool xf.fold, .int .i64 xf.mark, .int .i64 xf.a, .int .i64 xf.b, .slice xa xn xc] 118)) (w5.heap.size + 1) [.int .i64 xf.kind, .int .i64 xf.ns, .string xf.pre, .string xf.name, .int .i64 xf.op, .string xf.text, .bool xf.fold, .int .i64 xf.mark, .int .i64 xf.a, .int .i64 xf.b, .slice xa xn xc] 118 from by have hh : Blk ((w5.alloc (.cells #[.int .i64 xf.kind, .int .i64 xf.ns, .string xf.pre, .string xf.name, .int .i64 xf.op, .string xf.text, .bool xf.fold, .int .i64 xf.mark, .int .i64 xf.a, .int .i64 xf.b, .slice xa xn xc] 118)).alloc (.cells #[.int .i64 xf.kind, .int .i64 xf.ns, .string xf.pre, .string xf.name, .int .i64 xf.op, .string xf.text, .bool xf.fold, .int .i64 xf.mark, .int .i64 xf.a, .int .i64 xf.b, .slice xa xn xc] 118)) (w5.alloc (.cells #[.int .i64 xf.kind, .int .i64 xf.ns, .string xf.pre, .string xf.name, .int .i64 xf.op, .string xf.text, .bool xf.fold, .int .i64 xf.mark, .int .i64 xf.a, .int .i64 xf.b, .slice xa xn xc] 118)).heap.size [.int .i64 xf.kind, .int .i64 xf.ns, .string xf.pre, .string xf.name, .int .i64 xf.op, .string xf.text, .bool xf.fold, .int .i64 xf.mark, .int .i64 xf.a, .int .i64 xf.b, .slice xa xn xc] 118 := Blk.alloc [.int .i64 xf.kind, .int .i64 xf.ns, .string xf.pre, .string xf.name, .int .i64 xf.op, .string xf.text, .bool xf.fold, .int .i64 xf.mark, .int .i64 xf.a, .int .i64 xf.b, .slice xa xn xc] _; rwa [show (w5.alloc (.cells #[.int .i64 xf.kind, .int .i64 xf.ns, .string xf.pre, .string xf.name, .int .i64 xf.op, .string xf.text, .bool xf.fold, .int .i64 xf.mark, .int .i64 xf.a, .int .i64 xf.b, .slice xa xn xc] 118)).heap.size = w5.heap.size + 1 from by simp] at hh); have HX7 := Lib.hid (x_moves (v := .slice va out.length vc) (base := w.heap.size) HGr.out.size HOB.out hxr ((Below.refl _ _).alloc (Nat.le_refl _) (.cells #[.int .i64 xf.kind, .int .i64 xf.ns, .string xf.pre, .string xf.name, .int .i64 xf.op, .string xf.text, .bool xf.fold, .int .i64 xf.mark, .int .i64 xf.a, .int .i64 xf.b, .slice xa xn xc] 118)) ((Below.refl _ _).alloc (Nat.le_refl _) (.cells #[.int .i64 xf.kind, .int .i64 xf.ns, .string xf.pre, .string xf.name, .int .i64 xf.op, .string xf.text, .bool xf.fold, .int .i64 xf.mark, .int .i64 xf.a, .int .i64 xf.b, .slice xa xn xc] 118))); have HG7 := Lib.hid (HGr.out.trans hg7); have HS5 := Lib.hid hg5.size; clear hxr h5 hg5 hg6 hg7 h7)
                  | (at_builtin; obtain ⟨ys, hy1, hy2, hy3⟩ := HR7.out; refine wpList_append_row2 rfl _ _ 112 rfl w.heap.size 118 iS _ 11 128 Tryz.underlying112 HIS.out.1 HIS.out.2.1 rfl (by decide) HIS.out.2.2.1 HIS.out.2.2.2 (.slice va out.length vc) out.length _ rfl hy2 ⟨w5.heap.size + 1, 0, none⟩ 1 (celS (d := d) (xf, xl) xa xn xc) rfl rfl (celS_one _ _ _ _) (fun j u hu => by rw [show (⟨w5.heap.size + 1, 0, none⟩ : Addr).add j = ⟨w5.heap.size + 1, j, none⟩ from by simp [Addr.add]; intro hj; exact hj.symm]; exact E7.out.cell j u hu) (by unfold maxLen; omega) (by omega) (by have := HG7.out.size; omega) ?_; intro v8 w8 hown8 hgr8 hv8; have HR8 := Lib.hid (RowG.snoc (RS_moves d) hy1 hy3 HX7.out hown8 hgr8 hv8); have HG8 := Lib.hid (gb_own HG7.out hgr8 (fun g hg => (HOB.out g hg).1)); have HB8 := Lib.hid (H7.out.blk.kept hgr8 (fun hh => by have := (HOB.out _ hh).1; have := HLT.out; omega)); have k8 := (D7.out.kept hgr8 (fun hh => by have := (HOB.out _ hh).2; have := HS5.out; omega)).cell 0 _ rfl; clear hy1 hy2 hy3 hown8 hgr8 hv8))
                obtain rfl := Option.some.inj HM3.out
                obtain ⟨a8, c8, rfl, hRd8⟩ := HR8.out.rd (RS_moves d) celS_len (by rw [List.length_append]; have := HNI.out; simp; omega)
                exact ECP_end (by simp [results, Tryz.results69, go_sem]) rfl (RsOf.imp hRd8 (fun b hb => hb) (fun b o x hb hx => RS.simple hx)) HLT.out HG8.out (World.grownBy.refl _ _) (HE.out.grown HG8.out HB8.out) rfl
              · have k13 : (xf.kind == 13) = false := beq_eq_false_iff_ne.2 h13
                have HM3 := Lib.hid (show compGo S ts f to st2 (out ++ [(xf, xl)]) = some RR from by have := HM2.out; rwa [if_neg h13] at this)
                clear h13
                go_wp2_with (first
                  | (go_at_call 105; (with_reducible refine fS.mono ?_); rintro e w5 ⟨xa, xn, xc, rfl, hxr, h5, hg5⟩; have hg6 : GB wr (w5.alloc (.cells #[.int .i64 xf.kind, .int .i64 xf.ns, .string xf.pre, .string xf.name, .int .i64 xf.op, .string xf.text, .bool xf.fold, .int .i64 xf.mark, .int .i64 xf.a, .int .i64 xf.b, .slice xa xn xc] 118)) p := hg5.trans (GB.of_below ((Below.refl _ _).alloc (Nat.le_refl _) (.cells #[.int .i64 xf.kind, .int .i64 xf.ns, .string xf.pre, .string xf.name, .int .i64 xf.op, .string xf.text, .bool xf.fold, .int .i64 xf.mark, .int .i64 xf.a, .int .i64 xf.b, .slice xa xn xc] 118))); have hg7 : GB wr ((w5.alloc (.cells #[.int .i64 xf.kind, .int .i64 xf.ns, .string xf.pre, .string xf.name, .int .i64 xf.op, .string xf.text, .bool xf.fold, .int .i64 xf.mark, .int .i64 xf.a, .int .i64 xf.b, .slice xa xn xc] 118)).alloc (.cells #[.int .i64 xf.kind, .int .i64 xf.ns, .string xf.pre, .string xf.name, .int .i64 xf.op, .string xf.text, .bool xf.fold, .int .i64 xf.mark, .int .i64 xf.a, .int .i64 xf.b, .slice xa xn xc] 118)) p := hg6.trans (GB.of_below ((Below.refl _ _).alloc (Nat.le_refl _) (.cells #[.int .i64 xf.kind, .int .i64 xf.ns, .string xf.pre, .string xf.name, .int .i64 xf.op, .string xf.text, .bool xf.fold, .int .i64 xf.mark, .int .i64 xf.a, .int .i64 xf.b, .slice xa xn xc] 118))); have HR7 := Lib.hid (HR.out.keep (RS_moves d) HLT.out hg7); have h7 := (h5.later ((Below.refl _ _).alloc (Nat.le_refl _) (.cells #[.int .i64 xf.kind, .int .i64 xf.ns, .string xf.pre, .string xf.name, .int .i64 xf.op, .string xf.text, .bool xf.fold, .int .i64 xf.mark, .int .i64 xf.a, .int .i64 xf.b, .slice xa xn xc] 118))).later ((Below.refl _ _).alloc (Nat.le_refl _) (.cells #[.int .i64 xf.kind, .int .i64 xf.ns, .string xf.pre, .string xf.name, .int .i64 xf.op, .string xf.text, .bool xf.fold, .int .i64 xf.mark, .int .i64 xf.a, .int .i64 xf.b, .slice xa xn xc] 118)); have H7 := Lib.hid h7; have D7 := Lib.hid (show Blk ((w5.alloc (.cells #[.int .i64 xf.kind, .int .i64 xf.ns, .string xf.pre, .string xf.name, .int .i64 xf.op, .string xf.text, .bool xf.fold, .int .i64 xf.mark, .int .i64 xf.a, .int .i64 xf.b, .slice xa xn xc] 118)).alloc (.cells #[.int .i64 xf.kind, .int .i64 xf.ns, .string xf.pre, .string xf.name, .int .i64 xf.op, .string xf.text, .bool xf.fold, .int .i64 xf.mark, .int .i64 xf.a, .int .i64 xf.b, .slice xa xn xc] 118)) w5.heap.size [.int .i64 xf.kind, .int .i64 xf.ns, .string xf.pre, .string xf.name, .int .i64 xf.op, .string xf.text, .bool xf.fold, .int .i64 xf.mark, .int .i64 xf.a, .int .i64 xf.b, .slice xa xn xc] 118 from (Blk.alloc [.int .i64 xf.kind, .int .i64 xf.ns, .string xf.pre, .string xf.name, .int .i64 xf.op, .string xf.text, .bool xf.fold, .int .i64 xf.mark, .int .i64 xf.a, .int .i64 xf.b, .slice xa xn xc] _).alloc_old (.cells #[.int .i64 xf.kind, .int .i64 xf.ns, .string xf.pre, .string xf.name, .int .i64 xf.op, .string xf.text, .bool xf.fold, .int .i64 xf.mark, .int .i64 xf.a, .int .i64 xf.b, .slice xa xn xc] 118)); have E7 := Lib.hid (show Blk ((w5.alloc (.cells #[.int .i64 xf.kind, .int .i64 xf.ns, .string xf.pre, .string xf.name, .int .i64 xf.op, .string xf.text, .bool xf.fold, .int .i64 xf.mark, .int .i64 xf.a, .int .i64 xf.b, .slice xa xn xc] 118)).alloc (.cells #[.int .i64 xf.kind, .int .i64 xf.ns, .string xf.pre, .string xf.name, .int .i64 xf.op, .string xf.text, .bool xf.fold, .int .i64 xf.mark, .int .i64 xf.a, .int .i64 xf.b, .slice xa xn xc] 118)) (w5.heap.size + 1) [.int .i64 xf.kind, .int .i64 xf.ns, .string xf.pre, .string xf.name, .int .i64 xf.op, .string xf.text, .bool xf.fold, .int .i64 xf.mark, .int .i64 xf.a, .int .i64 xf.b, .slice xa xn xc] 118 from by have hh : Blk ((w5.alloc (.cells #[.int .i64 xf.kind, .int .i64 xf.ns, .string xf.pre, .string xf.name, .int .i64 xf.op, .string xf.text, .bool xf.fold, .int .i64 xf.mark, .int .i64 xf.a, .int .i64 xf.b, .slice xa xn xc] 118)).alloc (.cells #[.int .i64 xf.kind, .int .i64 xf.ns, .string xf.pre, .string xf.name, .int .i64 xf.op, .string xf.text, .bool xf.fold, .int .i64 xf.mark, .int .i64 xf.a, .int .i64 xf.b, .slice xa xn xc] 118)) (w5.alloc (.cells #[.int .i64 xf.kind, .int .i64 xf.ns, .string xf.pre, .string xf.name, .int .i64 xf.op, .string xf.text, .bool xf.fold, .int .i64 xf.mark, .int .i64 xf.a, .int .i64 xf.b, .slice xa xn xc] 118)).heap.size [.int .i64 xf.kind, .int .i64 xf.ns, .string xf.pre, .string xf.name, .int .i64 xf.op, .string xf.text, .bool xf.fold, .int .i64 xf.mark, .int .i64 xf.a, .int .i64 xf.b, .slice xa xn xc] 118 := Blk.alloc [.int .i64 xf.kind, .int .i64 xf.ns, .string xf.pre, .string xf.name, .int .i64 xf.op, .string xf.text, .bool xf.fold, .int .i64 xf.mark, .int .i64 xf.a, .int .i64 xf.b, .slice xa xn xc] _; rwa [show (w5.alloc (.cells #[.int .i64 xf.kind, .int .i64 xf.ns, .string xf.pre, .string xf.name, .int .i64 xf.op, .string xf.text, .bool xf.fold, .int .i64 xf.mark, .int .i64 xf.a, .int .i64 xf.b, .slice xa xn xc] 118)).heap.size = w5.heap.size + 1 from by simp] at hh); have HX7 := Lib.hid (x_moves (v := .slice va out.length vc) (base := w.heap.size) HGr.out.size HOB.out hxr ((Below.refl _ _).alloc (Nat.le_refl _) (.cells #[.int .i64 xf.kind, .int .i64 xf.ns, .string xf.pre, .string xf.name, .int .i64 xf.op, .string xf.text, .bool xf.fold, .int .i64 xf.mark, .int .i64 xf.a, .int .i64 xf.b, .slice xa xn xc] 118)) ((Below.refl _ _).alloc (Nat.le_refl _) (.cells #[.int .i64 xf.kind, .int .i64 xf.ns, .string xf.pre, .string xf.name, .int .i64 xf.op, .string xf.text, .bool xf.fold, .int .i64 xf.mark, .int .i64 xf.a, .int .i64 xf.b, .slice xa xn xc] 118))); have HG7 := Lib.hid (HGr.out.trans hg7); have HS5 := Lib.hid hg5.size; clear hxr h5 hg5 hg6 hg7 h7)
                  | (at_builtin; obtain ⟨ys, hy1, hy2, hy3⟩ := HR7.out; refine wpList_append_row2 rfl _ _ 112 rfl w.heap.size 118 iS _ 11 128 Tryz.underlying112 HIS.out.1 HIS.out.2.1 rfl (by decide) HIS.out.2.2.1 HIS.out.2.2.2 (.slice va out.length vc) out.length _ rfl hy2 ⟨w5.heap.size + 1, 0, none⟩ 1 (celS (d := d) (xf, xl) xa xn xc) rfl rfl (celS_one _ _ _ _) (fun j u hu => by rw [show (⟨w5.heap.size + 1, 0, none⟩ : Addr).add j = ⟨w5.heap.size + 1, j, none⟩ from by simp [Addr.add]; intro hj; exact hj.symm]; exact E7.out.cell j u hu) (by unfold maxLen; omega) (by omega) (by have := HG7.out.size; omega) ?_; intro v8 w8 hown8 hgr8 hv8; have HR8 := Lib.hid (RowG.snoc (RS_moves d) hy1 hy3 HX7.out hown8 hgr8 hv8); have HG8 := Lib.hid (gb_own HG7.out hgr8 (fun g hg => (HOB.out g hg).1)); have HB8 := Lib.hid (H7.out.blk.kept hgr8 (fun hh => by have := (HOB.out _ hh).1; have := HLT.out; omega)); have k8 := (D7.out.kept hgr8 (fun hh => by have := (HOB.out _ hh).2; have := HS5.out; omega)).cell 0 _ rfl; clear hy1 hy2 hy3 hown8 hgr8 hv8))
                go_roundw
                case rel => exact ⟨to, st2, out ++ [(xf, xl)], f, rfl, HR8, Lib.hid (HE.out.grown HG8.out HB8.out), HG8, Lib.hid ⟨HTO.out, by rw [List.length_append]; have := HF.out; simp; omega⟩, HM3⟩
                case measure =>
                  have hl := HR8.out.lenV
                  rw [List.length_append] at hl
                  rw [hl]
                  have := HNI.out
                  show _ < 1000011 - out.length
                  simp
                  omega
            · rw [if_neg hto] at hM; cases hM
      · rw [if_neg he] at hM
        have q : (st'.err == 0) = false := beq_eq_false_iff_ne.2 he
        obtain rfl := Option.some.inj hM
        clear he hM
        obtain ⟨nn, hnn⟩ : ∃ nn, out.length = nn := ⟨_, rfl⟩
        have HRd := Lib.hid (hnn ▸ HRd.out : RsOf (okN w.heap.size wr) 11 (SimpleAt (RdL (okN w.heap.size wr) d wr) wr) va nn vc out)
        rw [hnn] at hnI ⊢
        have HNN := Lib.hid hnn
        clear hnn
        by_cases h0 : nn = 0
        · subst h0
          have f9 := efail_any HEr.out 10 kk (by omega)
          have HZ := Lib.hid (show compEnd ts st' out.length kk = eFail ts st' 10 kk from by rw [HNN.out]; exact if_pos rfl)
          go_wp2_with (first
            | (go_at_call 56; go_loud (with_reducible refine f9.mono ?_); rintro e w9 ⟨rfl, h9, hg9⟩))
          exact ECP_end (by simp [results, Tryz.results69, go_sem]) HNN.out HRd.out HLT.out (HGr.out.trans hg9) (hg9) (by rw [HZ.out]; exact h9) rfl
        · have hn0 : ((nn : Int) == 0) = false := beq_eq_false_iff_ne.2 (by omega)
          have HZ := Lib.hid (show compEnd ts st' out.length kk = st' from by rw [HNN.out]; exact if_neg h0)
          go_wp2
          exact ECP_end (by simp [results, Tryz.results69, go_sem]) HNN.out HRd.out HLT.out HGr.out (World.grownBy.refl _ _) (by rw [HZ.out]; exact HEr.out) rfl
  | false =>
    cases sg with
    | true =>
      rw [if_neg (by decide), if_pos rfl] at HRR
      obtain ⟨xF, hxF⟩ : ∃ xF : Flat, (⟨2, ns, pre, ⟨#[]⟩, 0, ⟨#[]⟩, false, 0, 0, 0⟩ : Flat) = xF := ⟨_, rfl⟩
      have HXF := Lib.hid hxF.symm
      have hR2 : (if FlatOk xF then compGo S ts (ts.length + 10) (k + 1) st1 [(xF, emptyL d)] else none) = some RR := by
        have := HRR.out
        rw [← hxF]
        exact this
      have hfo : FlatOk xF := by
        by_cases hq : FlatOk xF
        · exact hq
        · rw [if_neg hq] at hR2; cases hR2
      rw [if_pos hfo] at hR2
      have HRR := Lib.hid hR2
      have HFO := Lib.hid hfo
      clear hR2 hfo hxF
      go_enter Tryz.func69, Tryz.ntmps69
      go_wp2_with (first
        | (go_at_call 102; (with_reducible refine fP.mono ?_); rintro e w1 ⟨rfl, h1, hg1⟩; have O1 := (owns_keep HLT.out hg1 HO0.out).alloc (.cells #[.int .i64 0, .int .i64 ns, .string pre, .string ⟨#[]⟩, .int .i64 0, .string ⟨#[]⟩, .bool false, .int .i64 0, .int .i64 0, .int .i64 0, .slice none 0 0] 118); have h2 := h1.later ((Below.refl _ _).alloc (Nat.le_refl _) (.cells #[.int .i64 0, .int .i64 ns, .string pre, .string ⟨#[]⟩, .int .i64 0, .string ⟨#[]⟩, .bool false, .int .i64 0, .int .i64 0, .int .i64 0, .slice none 0 0] 118)); have D2 := Lib.hid (show Blk (w1.alloc (.cells #[.int .i64 0, .int .i64 ns, .string pre, .string ⟨#[]⟩, .int .i64 0, .string ⟨#[]⟩, .bool false, .int .i64 0, .int .i64 0, .int .i64 0, .slice none 0 0] 118)) w1.heap.size [.int .i64 0, .int .i64 ns, .string pre, .string ⟨#[]⟩, .int .i64 0, .string ⟨#[]⟩, .bool false, .int .i64 0, .int .i64 0, .int .i64 0, .slice none 0 0] 118 from Blk.alloc [.int .i64 0, .int .i64 ns, .string pre, .string ⟨#[]⟩, .int .i64 0, .string ⟨#[]⟩, .bool false, .int .i64 0, .int .i64 0, .int .i64 0, .slice none 0 0] _); have HG2 := Lib.hid (show GB w (w1.alloc (.cells #[.int .i64 0, .int .i64 ns, .string pre, .string ⟨#[]⟩, .int .i64 0, .string ⟨#[]⟩, .bool false, .int .i64 0, .int .i64 0, .int .i64 0, .slice none 0 0] 118)) p from ((GB.of_below HB0.out).trans hg1).trans (GB.of_below ((Below.refl _ _).alloc (Nat.le_refl _) (.cells #[.int .i64 0, .int .i64 ns, .string pre, .string ⟨#[]⟩, .int .i64 0, .string ⟨#[]⟩, .bool false, .int .i64 0, .int .i64 0, .int .i64 0, .slice none 0 0] 118)))); have HO2 := Lib.hid O1; have H2 := Lib.hid h2; have HW1 := Lib.hid (show w.heap.size < w1.heap.size from Nat.lt_of_lt_of_le (by simp) hg1.size); have f2 := ename_any h2 k (by have := HK.out; omega); rw [HNM.out] at f2; clear O1 h1 h2 hg1)
        | (go_at_call 103; (with_reducible refine f2.mono ?_); rintro e w3 ⟨rfl, hb3⟩; have f3 := esign_any (H2.out.later hb3) k (by have := HK.out; omega) ⟨#[42]⟩; rw [HSG.out] at f3; have HO3 := Lib.hid (owns_laterE hb3 HO2.out); have D3 := Lib.hid (D2.out.later hb3 D2.out.lt); have H3 := Lib.hid (H2.out.later hb3); have HG3 := Lib.hid (HG2.out.trans (GB.of_below hb3)))
        | (go_at_call 104; (with_reducible refine f3.mono ?_); rintro e w4 ⟨rfl, hb4⟩; have D4 := D3.out.later hb4 D3.out.lt; have d0 := D4.cell 0 _ rfl; have e0 := D4.frozen 0; have hne1 : p ≠ w1.heap.size := (by have := HLT.out; have := HW1.out; omega); have hno1 : ∀ g, (Value.slice (some ⟨w.heap.size, 0, none⟩) 0 0).ownBlock = some g → (some w1.heap.size : Option Nat) ≠ some g := (fun g hg hh => by have h1 := Option.some.inj hg; have h2 := Option.some.inj hh; have := HW1.out; simp only at h1; omega); have hgs4 := grown_setCell w4 w1.heap.size 0 (.int .i64 2); have HB4 := Lib.hid ((H3.out.later hb4).blk.kept hgs4 (fun hh => hne1 (Option.some.inj hh).symm)); have HO4 := Lib.hid (owns_grown hgs4 hno1 (owns_laterE hb4 HO3.out)); have HG4 := Lib.hid (gb_own (HG3.out.trans (GB.of_below hb4)) hgs4 (fun g hg => by have := Option.some.inj hg; have := HW1.out; omega)); have H4 := Lib.hid (HE.out.grown HG4.out HB4.out); have E4 := Lib.hid (D4.setCell 0 (.int .i64 2)); have k0 := E4.out.cell 0 _ rfl; have k1 := E4.out.cell 1 _ rfl; have k2 := E4.out.cell 2 _ rfl; have k3 := E4.out.cell 3 _ rfl; have k4 := E4.out.cell 4 _ rfl; have k5 := E4.out.cell 5 _ rfl; have k6 := E4.out.cell 6 _ rfl; have k7 := E4.out.cell 7 _ rfl; have k8 := E4.out.cell 8 _ rfl; have k9 := E4.out.cell 9 _ rfl; have k10 := E4.out.cell 10 _ rfl; have m0 := D4.cell 0 _ rfl; have m1 := D4.cell 1 _ rfl; have m2 := D4.cell 2 _ rfl; have m3 := D4.cell 3 _ rfl; have m4 := D4.cell 4 _ rfl; have m5 := D4.cell 5 _ rfl; have m6 := D4.cell 6 _ rfl; have m7 := D4.cell 7 _ rfl; have m8 := D4.cell 8 _ rfl; have m9 := D4.cell 9 _ rfl; have m10 := D4.cell 10 _ rfl; clear D4)
        | (at_builtin; have hb5 := (Below.refl (w4.setCell ⟨w1.heap.size, 0, none⟩ (.int .i64 2)).heap.size (w4.setCell ⟨w1.heap.size, 0, none⟩ (.int .i64 2))).alloc (Nat.le_refl _) (.cells #[.int .i64 2, .int .i64 ns, .string pre, .string ⟨#[]⟩, .int .i64 0, .string ⟨#[]⟩, .bool false, .int .i64 0, .int .i64 0, .int .i64 0, .slice none 0 0] 118); have E7 : Blk ((w4.setCell ⟨w1.heap.size, 0, none⟩ (.int .i64 2)).alloc (.cells #[.int .i64 2, .int .i64 ns, .string pre, .string ⟨#[]⟩, .int .i64 0, .string ⟨#[]⟩, .bool false, .int .i64 0, .int .i64 0, .int .i64 0, .slice none 0 0] 118)) w4.heap.size [.int .i64 2, .int .i64 ns, .string pre, .string ⟨#[]⟩, .int .i64 0, .string ⟨#[]⟩, .bool false, .int .i64 0, .int .i64 0, .int .i64 0, .slice none 0 0] 118 := (by have hh : Blk ((w4.setCell ⟨w1.heap.size, 0, none⟩ (.int .i64 2)).alloc (.cells #[.int .i64 2, .int .i64 ns, .string pre, .string ⟨#[]⟩, .int .i64 0, .string ⟨#[]⟩, .bool false, .int .i64 0, .int .i64 0, .int .i64 0, .slice none 0 0] 118)) (w4.setCell ⟨w1.heap.size, 0, none⟩ (.int .i64 2)).heap.size [.int .i64 2, .int .i64 ns, .string pre, .string ⟨#[]⟩, .int .i64 0, .string ⟨#[]⟩, .bool false, .int .i64 0, .int .i64 0, .int .i64 0, .slice none 0 0] 118 := Blk.alloc [.int .i64 2, .int .i64 ns, .string pre, .string ⟨#[]⟩, .int .i64 0, .string ⟨#[]⟩, .bool false, .int .i64 0, .int .i64 0, .int .i64 0, .slice none 0 0] _; simpa using hh); have HG7 := HG4.out.trans (GB.of_below hb5); have H7 := H4.out.later hb5; refine wpList_append_row2 rfl _ _ 112 rfl w.heap.size 118 iS _ 11 128 Tryz.underlying112 HIS.out.1 HIS.out.2.1 rfl (by decide) HIS.out.2.2.1 HIS.out.2.2.2 (.slice (some ⟨w.heap.size, 0, none⟩) 0 0) 0 [] rfl (owns_laterE hb5 HO4.out) ⟨w4.heap.size, 0, none⟩ 1 (celS (d := d) (xF, emptyL d) none 0 0) rfl rfl (celS_one _ _ _ _) (fun j u hu => by rw [show (⟨w4.heap.size, 0, none⟩ : Addr).add j = ⟨w4.heap.size, j, none⟩ from by simp [Addr.add]; intro hj; exact hj.symm]; exact E7.cell j u (by rw [← hu, HXF.out]; rfl)) (by unfold maxLen; omega) (by omega) (by have := HG7.size; omega) ?_; intro v8 w8 hown8 hgr8 hv8; have HR8 := Lib.hid (RowG.snoc (cel := celS) (R := RS d) (RS_moves d) (ys := []) (out := []) rfl (by simp) ⟨HFO.out, emptyL_rd d⟩ hown8 hgr8 hv8); have HG8 := Lib.hid (gb_own HG7 hgr8 (fun g hg => by have := Option.some.inj hg; simp only at this; omega)); have HB8 := Lib.hid (H7.blk.kept hgr8 (fun hh => by have := Option.some.inj hh; simp only at this; have := HLT.out; omega)); clear hown8 hgr8 hv8 hb5 E7 HG7 H7)
        | fail)
      go_loopw [11, 13] (fun v i wr => ∃ (kk : Nat) (st' : Es) (out : List (Sm d)) (f : Nat), i = .int .i64 kk ∧ Hid (RowG 118 11 celS (RS d) wr w.heap.size v out) ∧ Hid (EyeAt wr p E ts ps st') ∧ Hid (GB w wr p) ∧ Hid (kk ≤ 3000000 ∧ f + out.length ≤ 1000011) ∧ Hid (compGo S ts f kk st' out = some RR)) (fun v _ _ => 1000011 - lenV v)
      case atStart => exact ⟨k + 1, st1, [(xF, emptyL d)], ts.length + 10, rfl, HR8, Lib.hid (HE.out.grown HG8.out HB8.out), HG8, Lib.hid ⟨by have := HK.out; omega, by have := HSM.out; show _ + 1 ≤ _; omega⟩, HRR⟩
      case round =>
        obtain ⟨kk, st', out, f, rfl, HR, HEr, HGr, HKr, HM⟩ := hrel
        have hLV := HR.out.lenV
        have hkk := HKr.out.1
        have hkkI : (kk : Int) ≤ 3000000 := by omega
        have c5 := HEr.out.blk.cell 5 _ rfl
        obtain ⟨va, vc, rfl, hRd⟩ := HR.out.rd (RS_moves d) celS_len (by have := HKr.out.2; omega)
        obtain ⟨f, rfl⟩ : ∃ g, f = g + 1 := by
          cases f with
          | zero => exact absurd HM.out (by unfold compGo; simp)
          | succ g => exact ⟨g, rfl⟩
        have hM := HM.out
        unfold compGo at hM
        have HRd := Lib.hid (RsOf.imp hRd (fun b hb => hb) (fun b o x hb hx => RS.simple hx))
        have hnI : out.length ≤ 1000010 := by have := HKr.out.2; omega
        have HNI := Lib.hid hnI
        have HF := Lib.hid (show f + 1 + out.length ≤ 1000011 from HKr.out.2)
        clear hRd HM HKr hLV hkk
        by_cases he : st'.err = 0
        · rw [if_pos he] at hM
          have q : (st'.err == 0) = true := beq_iff_eq.2 he
          cases hSk : S kk st' out with
          | none => rw [hSk] at hM; cases hM
          | some x =>
            obtain ⟨⟨xf, xl⟩, to, st2⟩ := x
            rw [hSk] at hM
            dsimp only at hM
            have fS := HSC.out wr st' kk out va vc HEr.out (by omega) (RsOf.imp HRd.out (fun b hb => ⟨hb.2, by have := hb.1; have := HLT.out; omega⟩) (fun b o x hb hx => hx.move rfl (fun _ _ _ _ hl => RdL.move (fun b hb => ⟨⟨hb.2, by have := hb.1; have := HLT.out; omega⟩, rfl⟩) hl))) _ hSk
            have fS := fS.mono (R' := fun e w5 => ∃ xa xn xc, e = .returned (.tuple #[.agg #[.int .i64 xf.kind, .int .i64 xf.ns, .string xf.pre, .string xf.name, .int .i64 xf.op, .string xf.text, .bool xf.fold, .int .i64 xf.mark, .int .i64 xf.a, .int .i64 xf.b, .slice xa xn xc], .int .i64 (to : Nat)]) ∧ RS d (okN wr.heap.size w5) w5 xa xn xc (xf, xl) ∧ EyeAt w5 p E ts ps st2 ∧ GB wr w5 p) (fun e w' h => h)
            clear he hSk
            by_cases ht : to = kk
            · subst ht
              rw [if_pos rfl] at hM
              have q2 : ((to : Int) == (to : Int)) = true := beq_self_eq_true _
              obtain rfl := Option.some.inj hM
              clear hM
              obtain ⟨nn, hnn⟩ : ∃ nn, out.length = nn := ⟨_, rfl⟩
              have HRd := Lib.hid (hnn ▸ HRd.out : RsOf (okN w.heap.size wr) 11 (SimpleAt (RdL (okN w.heap.size wr) d wr) wr) va nn vc out)
              rw [hnn] at fS hnI ⊢
              have HNN := Lib.hid hnn
              clear hnn
              by_cases h0 : nn = 0
              · subst h0
                have HZ := Lib.hid (show compEnd ts st2 out.length to = eFail ts st2 10 to from by rw [HNN.out]; exact if_pos rfl)
                go_wp2_with (first
                  | (go_at_call 105; (with_reducible refine fS.mono ?_); rintro e w5 ⟨xa, xn, xc, rfl, hxr, h5, hg5⟩; have H5 := Lib.hid (h5.later ((Below.refl _ _).alloc (Nat.le_refl _) (.cells #[.int .i64 xf.kind, .int .i64 xf.ns, .string xf.pre, .string xf.name, .int .i64 xf.op, .string xf.text, .bool xf.fold, .int .i64 xf.mark, .int .i64 xf.a, .int .i64 xf.b, .slice xa xn xc] 118))); have HG5 := Lib.hid (hg5.trans (GB.of_below ((Below.refl _ _).alloc (Nat.le_refl _) (.cells #[.int .i64 xf.kind, .int .i64 xf.ns, .string xf.pre, .string xf.name, .int .i64 xf.op, .string xf.text, .bool xf.fold, .int .i64 xf.mark, .int .i64 xf.a, .int .i64 xf.b, .slice xa xn xc] 118)))); clear h5 hg5 hxr; have f9 := efail_any H5.out 10 to (by omega))
                  | (go_at_call 56; go_loud (with_reducible refine f9.mono ?_); rintro e w9 ⟨rfl, h9, hg9⟩))
                exact ECP_end (by simp [results, Tryz.results69, go_sem]) HNN.out HRd.out HLT.out ((HGr.out.trans HG5.out).trans hg9) ((HG5.out).trans hg9) (by rw [HZ.out]; exact h9) rfl
              · have hn0 : ((nn : Int) == 0) = false := beq_eq_false_iff_ne.2 (by omega)
                have HZ := Lib.hid (show compEnd ts st2 out.length to = st2 from by rw [HNN.out]; exact if_neg h0)
                go_wp2_with (first
                  | (go_at_call 105; (with_reducible refine fS.mono ?_); rintro e w5 ⟨xa, xn, xc, rfl, hxr, h5, hg5⟩; have H5 := Lib.hid (h5.later ((Below.refl _ _).alloc (Nat.le_refl _) (.cells #[.int .i64 xf.kind, .int .i64 xf.ns, .string xf.pre, .string xf.name, .int .i64 xf.op, .string xf.text, .bool xf.fold, .int .i64 xf.mark, .int .i64 xf.a, .int .i64 xf.b, .slice xa xn xc] 118))); have HG5 := Lib.hid (hg5.trans (GB.of_below ((Below.refl _ _).alloc (Nat.le_refl _) (.cells #[.int .i64 xf.kind, .int .i64 xf.ns, .string xf.pre, .string xf.name, .int .i64 xf.op, .string xf.text, .bool xf.fold, .int .i64 xf.mark, .int .i64 xf.a, .int .i64 xf.b, .slice xa xn xc] 118)))); clear h5 hg5 hxr; skip)
                  | fail)
                exact ECP_end (by simp [results, Tryz.results69, go_sem]) HNN.out HRd.out HLT.out (HGr.out.trans HG5.out) (HG5.out) (by rw [HZ.out]; exact H5.out) rfl
            · rw [if_neg ht] at hM
              have q2 : ((to : Int) == (kk : Int)) = false := beq_eq_false_iff_ne.2 (by omega)
              by_cases hto : to ≤ 3000000
              · rw [if_pos hto] at hM
                have htI : (to : Int) ≤ 3000000 := by omega
                have HM2 := Lib.hid hM
                have HTO := Lib.hid hto
                clear hM ht hto
                have HOB := Lib.hid (fun g (hg : (Value.slice va out.length vc).ownBlock = some g) => own_blkG HR.out hg)
                by_cases h13 : xf.kind = 13
                · have k13 : (xf.kind == 13) = true := beq_iff_eq.2 h13
                  have HM3 := Lib.hid (show some (out ++ [(xf, xl)], to, true, st2) = some RR from by have := HM2.out; rwa [if_pos h13] at this)
                  clear h13
                  go_wp2_with (first
                    | (go_at_call 105; (with_reducible refine fS.mono ?_); rintro e w5 ⟨xa, xn, xc, rfl, hxr, h5, hg5⟩; have hg6 : GB wr (w5.alloc (.cells #[.int .i64 xf.kind, .int .i64 xf.ns, .string xf.pre, .string xf.name, .int .i64 xf.op, .string xf.text, .bool xf.fold, .int .i64 xf.mark, .int .i64 xf.a, .int .i64 xf.b, .slice xa xn xc] 118)) p := hg5.trans (GB.of_below ((Below.refl _ _).alloc (Nat.le_refl _) (.cells #[.int .i64 xf.kind, .int .i64 xf.ns, .string xf.pre, .string xf.name, .int .i64 xf.op, .string xf.text, .bool xf.fold, .int .i64 xf.mark, .int .i64 xf.a, .int .i64 xf.b, .slice xa xn xc] 118))); have hg7 : GB wr ((w5.alloc (.cells #[.int .i64 xf.kind, .int .i64 xf.ns, .string xf.pre, .string xf.name, .int .i64 xf.op, .string xf.text, .bool xf.fold, .int .i64 xf.mark, .int .i64 xf.a, .int .i64 xf.b, .slice xa xn xc] 118)).alloc (.cells #[.int .i64 xf.kind, .int .i64 xf.ns, .string xf.pre, .string xf.name, .int .i64 xf.op, .string xf.text, .bool xf.fold, .int .i64 xf.mark, .int .i64 xf.a, .int .i64 xf.b, .slice xa xn xc] 118)) p := hg6.trans (GB.of_below ((Below.refl _ _).alloc (Nat.le_refl _) (.cells #[.int .i64 xf.kind, .int .i64 xf.ns, .string xf.pre, .string xf.name, .int .i64 xf.op, .string xf.text, .bool xf.fold, .int .i64 xf.mark, .int .i64 xf.a, .int .i64 xf.b, .slice xa xn xc] 118))); have HR7 := Lib.hid (HR.out.keep (RS_moves d) HLT.out hg7); have h7 := (h5.later ((Below.refl _ _).alloc (Nat.le_refl _) (.cells #[.int .i64 xf.kind, .int .i64 xf.ns, .string xf.pre, .string xf.name, .int .i64 xf.op, .string xf.text, .bool xf.fold, .int .i64 xf.mark, .int .i64 xf.a, .int .i64 xf.b, .slice xa xn xc] 118))).later ((Below.refl _ _).alloc (Nat.le_refl _) (.cells #[.int .i64 xf.kind, .int .i64 xf.ns, .string xf.pre, .string xf.name, .int .i64 xf.op, .string xf.text, .bool xf.fold, .int .i64 xf.mark, .int .i64 xf.a, .int .i64 xf.b, .slice xa xn xc] 118)); have H7 := Lib.hid h7; have D7 := Lib.hid (show Blk ((w5.alloc (.cells #[.int .i64 xf.kind, .int .i64 xf.ns, .string xf.pre, .string xf.name, .int .i64 xf.op, .string xf.text, .bool xf.fold, .int .i64 xf.mark, .int .i64 xf.a, .int .i64 xf.b, .slice xa xn xc] 118)).alloc (.cells #[.int .i64 xf.kind, .int .i64 xf.ns, .string xf.pre, .string xf.name, .int .i64 xf.op, .string xf.text, .bool xf.fold, .int .i64 xf.mark, .int .i64 xf.a, .int .i64 xf.b, .slice xa xn xc] 118)) w5.heap.size [.int .i64 xf.kind, .int .i64 xf.ns, .string xf.pre, .string xf.name, .int .i64 xf.op, .string xf.text, .bool xf.fold, .int .i64 xf.mark, .int .i64 xf.a, .int .i64 xf.b, .slice xa xn xc] 118 from (Blk.alloc [.int .i64 xf.kind, .int .i64 xf.ns, .string xf.pre, .string xf.name, .int .i64 xf.op, .string xf.text, .bool xf.fold, .int .i64 xf.mark, .int .i64 xf.a, .int .i64 xf.b, .slice xa xn xc] _).alloc_old (.cells #[.int .i64 xf.kind, .int .i64 xf.ns, .string xf.pre, .string xf.name, .int .i64 xf.op, .string xf.text, .bool xf.fold, .int .i64 xf.mark, .int .i64 xf.a, .int .i64 xf.b, .slice xa xn xc] 118)); have E7 := Lib.hid (show Blk ((w5.alloc (.cells #[.int .i64 xf.kind, .int .i64 xf.ns, .string xf.pre, .string xf.name, .int .i64 xf.op, .string xf.text, .bool xf.fold, .int .i64 xf.mark, .int .i64 xf.a, .int .i64 xf.b, .slice xa xn xc] 118)).alloc (.cells #[.int .i64 xf.kind, .int .i64 xf.ns, .string xf.pre, .string xf.name, .int .i64 xf.op, .string xf.text, .bool xf.fold, .int .i64 xf.mark, .int .i64 xf.a, .int .i64 xf.b, .slice xa xn xc] 118)) (w5.heap.size + 1) [.int .i64 xf.kind, .int .i64 xf.ns, .string xf.pre, .string xf.name, .int .i64 xf.op, .string xf.text, .bool xf.fold, .int .i64 xf.mark, .int .i64 xf.a, .int .i64 xf.b, .slice xa xn xc] 118 from by have hh : Blk ((w5.alloc (.cells #[.int .i64 xf.kind, .int .i64 xf.ns, .string xf.pre, .string xf.name, .int .i64 xf.op, .string xf.text, .bool xf.fold, .int .i64 xf.mark, .int .i64 xf.a, .int .i64 xf.b, .slice xa xn xc] 118)).alloc (.cells #[.int .i64 xf.kind, .int .i64 xf.ns, .string xf.pre, .string xf.name, .int .i64 xf.op, .string xf.text, .bool xf.fold, .int .i64 xf.mark, .int .i64 xf.a, .int .i64 xf.b, .slice xa xn xc] 118)) (w5.alloc (.cells #[.int .i64 xf.kind, .int .i64 xf.ns, .string xf.pre, .string xf.name, .int .i64 xf.op, .string xf.text, .bool xf.fold, .int .i64 xf.mark, .int .i64 xf.a, .int .i64 xf.b, .slice xa xn xc] 118)).heap.size [.int .i64 xf.kind, .int .i64 xf.ns, .string xf.pre, .string xf.name, .int .i64 xf.op, .string xf.text, .bool xf.fold, .int .i64 xf.mark, .int .i64 xf.a, .int .i64 xf.b, .slice xa xn xc] 118 := Blk.alloc [.int .i64 xf.kind, .int .i64 xf.ns, .string xf.pre, .string xf.name, .int .i64 xf.op, .string xf.text, .bool xf.fold, .int .i64 xf.mark, .int .i64 xf.a, .int .i64 xf.b, .slice xa xn xc] _; rwa [show (w5.alloc (.cells #[.int .i64 xf.kind, .int .i64 xf.ns, .string xf.pre, .string xf.name, .int .i64 xf.op, .string xf.text, .bool xf.fold, .int .i64 xf.mark, .int .i64 xf.a, .int .i64 xf.b, .slice xa xn xc] 118)).heap.size = w5.heap.size + 1 from by simp] at hh); have HX7 := Lib.hid (x_moves (v := .slice va out.length vc) (base := w.heap.size) HGr.out.size HOB.out hxr ((Below.refl _ _).alloc (Nat.le_refl _) (.cells #[.int .i64 xf.kind, .int .i64 xf.ns, .string xf.pre, .string xf.name, .int .i64 xf.op, .string xf.text, .bool xf.fold, .int .i64 xf.mark, .int .i64 xf.a, .int .i64 xf.b, .slice xa xn xc] 118)) ((Below.refl _ _).alloc (Nat.le_refl _) (.cells #[.int .i64 xf.kind, .int .i64 xf.ns, .string xf.pre, .string xf.name, .int .i64 xf.op, .string xf.text, .bool xf.fold, .int .i64 xf.mark, .int .i64 xf.a, .int .i64 xf.b, .slice xa xn xc] 118))); have HG7 := Lib.hid (HGr.out.trans hg7); have HS5 := Lib.hid hg5.size; clear hxr h5 hg5 hg6 hg7 h7)
                    | (at_builtin; obtain ⟨ys, hy1, hy2, hy3⟩ := HR7.out; refine wpList_append_row2 rfl _ _ 112 rfl w.heap.size 118 iS _ 11 128 Tryz.underlying112 HIS.out.1 HIS.out.2.1 rfl (by decide) HIS.out.2.2.1 HIS.out.2.2.2 (.slice va out.length vc) out.length _ rfl hy2 ⟨w5.heap.size + 1, 0, none⟩ 1 (celS (d := d) (xf, xl) xa xn xc) rfl rfl (celS_one _ _ _ _) (fun j u hu => by rw [show (⟨w5.heap.size + 1, 0, none⟩ : Addr).add j = ⟨w5.heap.size + 1, j, none⟩ from by simp [Addr.add]; intro hj; exact hj.symm]; exact E7.out.cell j u hu) (by unfold maxLen; omega) (by omega) (by have := HG7.out.size; omega) ?_; intro v8 w8 hown8 hgr8 hv8; have HR8 := Lib.hid (RowG.snoc (RS_moves d) hy1 hy3 HX7.out hown8 hgr8 hv8); have HG8 := Lib.hid (gb_own HG7.out hgr8 (fun g hg => (HOB.out g hg).1)); have HB8 := Lib.hid (H7.out.blk.kept hgr8 (fun hh => by have := (HOB.out _ hh).1; have := HLT.out; omega)); have k8 := (D7.out.kept hgr8 (fun hh => by have := (HOB.out _ hh).2; have := HS5.out; omega)).cell 0 _ rfl; clear hy1 hy2 hy3 hown8 hgr8 hv8))
                  obtain rfl := Option.some.inj HM3.out
                  obtain ⟨a8, c8, rfl, hRd8⟩ := HR8.out.rd (RS_moves d) celS_len (by rw [List.length_append]; have := HNI.out; simp; omega)
                  exact ECP_end (by simp [results, Tryz.results69, go_sem]) rfl (RsOf.imp hRd8 (fun b hb => hb) (fun b o x hb hx => RS.simple hx)) HLT.out HG8.out (World.grownBy.refl _ _) (HE.out.grown HG8.out HB8.out) rfl
                · have k13 : (xf.kind == 13) = false := beq_eq_false_iff_ne.2 h13
                  have HM3 := Lib.hid (show compGo S ts f to st2 (out ++ [(xf, xl)]) = some RR from by have := HM2.out; rwa [if_neg h13] at this)
                  clear h13
                  go_wp2_with (first
                    | (go_at_call 105; (with_reducible refine fS.mono ?_); rintro e w5 ⟨xa, xn, xc, rfl, hxr, h5, hg5⟩; have hg6 : GB wr (w5.alloc (.cells #[.int .i64 xf.kind, .int .i64 xf.ns, .string xf.pre, .string xf.name, .int .i64 xf.op, .string xf.text, .bool xf.fold, .int .i64 xf.mark, .int .i64 xf.a, .int .i64 xf.b, .slice xa xn xc] 118)) p := hg5.trans (GB.of_below ((Below.refl _ _).alloc (Nat.le_refl _) (.cells #[.int .i64 xf.kind, .int .i64 xf.ns, .string xf.pre, .string xf.name, .int .i64 xf.op, .string xf.text, .bool xf.fold, .int .i64 xf.mark, .int .i64 xf.a, .int .i64 xf.b, .slice xa xn xc] 118))); have hg7 : GB wr ((w5.alloc (.cells #[.int .i64 xf.kind, .int .i64 xf.ns, .string xf.pre, .string xf.name, .int .i64 xf.op, .string xf.text, .bool xf.fold, .int .i64 xf.mark, .int .i64 xf.a, .int .i64 xf.b, .slice xa xn xc] 118)).alloc (.cells #[.int .i64 xf.kind, .int .i64 xf.ns, .string xf.pre, .string xf.name, .int .i64 xf.op, .string xf.text, .bool xf.fold, .int .i64 xf.mark, .int .i64 xf.a, .int .i64 xf.b, .slice xa xn xc] 118)) p := hg6.trans (GB.of_below ((Below.refl _ _).alloc (Nat.le_refl _) (.cells #[.int .i64 xf.kind, .int .i64 xf.ns, .string xf.pre, .string xf.name, .int .i64 xf.op, .string xf.text, .bool xf.fold, .int .i64 xf.mark, .int .i64 xf.a, .int .i64 xf.b, .slice xa xn xc] 118))); have HR7 := Lib.hid (HR.out.keep (RS_moves d) HLT.out hg7); have h7 := (h5.later ((Below.refl _ _).alloc (Nat.le_refl _) (.cells #[.int .i64 xf.kind, .int .i64 xf.ns, .string xf.pre, .string xf.name, .int .i64 xf.op, .string xf.text, .bool xf.fold, .int .i64 xf.mark, .int .i64 xf.a, .int .i64 xf.b, .slice xa xn xc] 118))).later ((Below.refl _ _).alloc (Nat.le_refl _) (.cells #[.int .i64 xf.kind, .int .i64 xf.ns, .string xf.pre, .string xf.name, .int .i64 xf.op, .string xf.text, .bool xf.fold, .int .i64 xf.mark, .int .i64 xf.a, .int .i64 xf.b, .slice xa xn xc] 118)); have H7 := Lib.hid h7; have D7 := Lib.hid (show Blk ((w5.alloc (.cells #[.int .i64 xf.kind, .int .i64 xf.ns, .string xf.pre, .string xf.name, .int .i64 xf.op, .string xf.text, .bool xf.fold, .int .i64 xf.mark, .int .i64 xf.a, .int .i64 xf.b, .slice xa xn xc] 118)).alloc (.cells #[.int .i64 xf.kind, .int .i64 xf.ns, .string xf.pre, .string xf.name, .int .i64 xf.op, .string xf.text, .bool xf.fold, .int .i64 xf.mark, .int .i64 xf.a, .int .i64 xf.b, .slice xa xn xc] 118)) w5.heap.size [.int .i64 xf.kind, .int .i64 xf.ns, .string xf.pre, .string xf.name, .int .i64 xf.op, .string xf.text, .bool xf.fold, .int .i64 xf.mark, .int .i64 xf.a, .int .i64 xf.b, .slice xa xn xc] 118 from (Blk.alloc [.int .i64 xf.kind, .int .i64 xf.ns, .string xf.pre, .string xf.name, .int .i64 xf.op, .string xf.text, .bool xf.fold, .int .i64 xf.mark, .int .i64 xf.a, .int .i64 xf.b, .slice xa xn xc] _).alloc_old (.cells #[.int .i64 xf.kind, .int .i64 xf.ns, .string xf.pre, .string xf.name, .int .i64 xf.op, .string xf.text, .bool xf.fold, .int .i64 xf.mark, .int .i64 xf.a, .int .i64 xf.b, .slice xa xn xc] 118)); have E7 := Lib.hid (show Blk ((w5.alloc (.cells #[.int .i64 xf.kind, .int .i64 xf.ns, .string xf.pre, .string xf.name, .int .i64 xf.op, .string xf.text, .bool xf.fold, .int .i64 xf.mark, .int .i64 xf.a, .int .i64 xf.b, .slice xa xn xc] 118)).alloc (.cells #[.int .i64 xf.kind, .int .i64 xf.ns, .string xf.pre, .string xf.name, .int .i64 xf.op, .string xf.text, .bool xf.fold, .int .i64 xf.mark, .int .i64 xf.a, .int .i64 xf.b, .slice xa xn xc] 118)) (w5.heap.size + 1) [.int .i64 xf.kind, .int .i64 xf.ns, .string xf.pre, .string xf.name, .int .i64 xf.op, .string xf.text, .bool xf.fold, .int .i64 xf.mark, .int .i64 xf.a, .int .i64 xf.b, .slice xa xn xc] 118 from by have hh : Blk ((w5.alloc (.cells #[.int .i64 xf.kind, .int .i64 xf.ns, .string xf.pre, .string xf.name, .int .i64 xf.op, .string xf.text, .bool xf.fold, .int .i64 xf.mark, .int .i64 xf.a, .int .i64 xf.b, .slice xa xn xc] 118)).alloc (.cells #[.int .i64 xf.kind, .int .i64 xf.ns, .string xf.pre, .string xf.name, .int .i64 xf.op, .string xf.text, .bool xf.fold, .int .i64 xf.mark, .int .i64 xf.a, .int .i64 xf.b, .slice xa xn xc] 118)) (w5.alloc (.cells #[.int .i64 xf.kind, .int .i64 xf.ns, .string xf.pre, .string xf.name, .int .i64 xf.op, .string xf.text, .bool xf.fold, .int .i64 xf.mark, .int .i64 xf.a, .int .i64 xf.b, .slice xa xn xc] 118)).heap.size [.int .i64 xf.kind, .int .i64 xf.ns, .string xf.pre, .string xf.name, .int .i64 xf.op, .string xf.text, .bool xf.fold, .int .i64 xf.mark, .int .i64 xf.a, .int .i64 xf.b, .slice xa xn xc] 118 := Blk.alloc [.int .i64 xf.kind, .int .i64 xf.ns, .string xf.pre, .string xf.name, .int .i64 xf.op, .string xf.text, .bool xf.fold, .int .i64 xf.mark, .int .i64 xf.a, .int .i64 xf.b, .slice xa xn xc] _; rwa [show (w5.alloc (.cells #[.int .i64 xf.kind, .int .i64 xf.ns, .string xf.pre, .string xf.name, .int .i64 xf.op, .string xf.text, .bool xf.fold, .int .i64 xf.mark, .int .i64 xf.a, .int .i64 xf.b, .slice xa xn xc] 118)).heap.size = w5.heap.size + 1 from by simp] at hh); have HX7 := Lib.hid (x_moves (v := .slice va out.length vc) (base := w.heap.size) HGr.out.size HOB.out hxr ((Below.refl _ _).alloc (Nat.le_refl _) (.cells #[.int .i64 xf.kind, .int .i64 xf.ns, .string xf.pre, .string xf.name, .int .i64 xf.op, .string xf.text, .bool xf.fold, .int .i64 xf.mark, .int .i64 xf.a, .int .i64 xf.b, .slice xa xn xc] 118)) ((Below.refl _ _).alloc (Nat.le_refl _) (.cells #[.int .i64 xf.kind, .int .i64 xf.ns, .string xf.pre, .string xf.name, .int .i64 xf.op, .string xf.text, .bool xf.fold, .int .i64 xf.mark, .int .i64 xf.a, .int .i64 xf.b, .slice xa xn xc] 118))); have HG7 := Lib.hid (HGr.out.trans hg7); have HS5 := Lib.hid hg5.size; clear hxr h5 hg5 hg6 hg7 h7)
                    | (at_builtin; obtain ⟨ys, hy1, hy2, hy3⟩ := HR7.out; refine wpList_append_row2 rfl _ _ 112 rfl w.heap.size 118 iS _ 11 128 Tryz.underlying112 HIS.out.1 HIS.out.2.1 rfl (by decide) HIS.out.2.2.1 HIS.out.2.2.2 (.slice va out.length vc) out.length _ rfl hy2 ⟨w5.heap.size + 1, 0, none⟩ 1 (celS (d := d) (xf, xl) xa xn xc) rfl rfl (celS_one _ _ _ _) (fun j u hu => by rw [show (⟨w5.heap.size + 1, 0, none⟩ : Addr).add j = ⟨w5.heap.size + 1, j, none⟩ from by simp [Addr.add]; intro hj; exact hj.symm]; exact E7.out.cell j u hu) (by unfold maxLen; omega) (by omega) (by have := HG7.out.size; omega) ?_; intro v8 w8 hown8 hgr8 hv8; have HR8 := Lib.hid (RowG.snoc (RS_moves d) hy1 hy3 HX7.out hown8 hgr8 hv8); have HG8 := Lib.hid (gb_own HG7.out hgr8 (fun g hg => (HOB.out g hg).1)); have HB8 := Lib.hid (H7.out.blk.kept hgr8 (fun hh => by have := (HOB.out _ hh).1; have := HLT.out; omega)); have k8 := (D7.out.kept hgr8 (fun hh => by have := (HOB.out _ hh).2; have := HS5.out; omega)).cell 0 _ rfl; clear hy1 hy2 hy3 hown8 hgr8 hv8))
                  go_roundw
                  case rel => exact ⟨to, st2, out ++ [(xf, xl)], f, rfl, HR8, Lib.hid (HE.out.grown HG8.out HB8.out), HG8, Lib.hid ⟨HTO.out, by rw [List.length_append]; have := HF.out; simp; omega⟩, HM3⟩
                  case measure =>
                    have hl := HR8.out.lenV
                    rw [List.length_append] at hl
                    rw [hl]
                    have := HNI.out
                    show _ < 1000011 - out.length
                    simp
                    omega
              · rw [if_neg hto] at hM; cases hM
        · rw [if_neg he] at hM
          have q : (st'.err == 0) = false := beq_eq_false_iff_ne.2 he
          obtain rfl := Option.some.inj hM
          clear he hM
          obtain ⟨nn, hnn⟩ : ∃ nn, out.length = nn := ⟨_, rfl⟩
          have HRd := Lib.hid (hnn ▸ HRd.out : RsOf (okN w.heap.size wr) 11 (SimpleAt (RdL (okN w.heap.size wr) d wr) wr) va nn vc out)
          rw [hnn] at hnI ⊢
          have HNN := Lib.hid hnn
          clear hnn
          by_cases h0 : nn = 0
          · subst h0
            have f9 := efail_any HEr.out 10 kk (by omega)
            have HZ := Lib.hid (show compEnd ts st' out.length kk = eFail ts st' 10 kk from by rw [HNN.out]; exact if_pos rfl)
            go_wp2_with (first
              | (go_at_call 56; go_loud (with_reducible refine f9.mono ?_); rintro e w9 ⟨rfl, h9, hg9⟩))
            exact ECP_end (by simp [results, Tryz.results69, go_sem]) HNN.out HRd.out HLT.out (HGr.out.trans hg9) (hg9) (by rw [HZ.out]; exact h9) rfl
          · have hn0 : ((nn : Int) == 0) = false := beq_eq_false_iff_ne.2 (by omega)
            have HZ := Lib.hid (show compEnd ts st' out.length kk = st' from by rw [HNN.out]; exact if_neg h0)
            go_wp2
            exact ECP_end (by simp [results, Tryz.results69, go_sem]) HNN.out HRd.out HLT.out HGr.out (World.grownBy.refl _ _) (by rw [HZ.out]; exact HEr.out) rfl
    | false =>
      rw [if_neg (by decide), if_neg (by decide)] at HRR
      go_enter Tryz.func69, Tryz.ntmps69
      go_wp2_with (first
        | (go_at_call 102; (with_reducible refine fP.mono ?_); rintro e w1 ⟨rfl, h1, hg1⟩; have O1 := (owns_keep HLT.out hg1 HO0.out).alloc (.cells #[.int .i64 0, .int .i64 ns, .string pre, .string ⟨#[]⟩, .int .i64 0, .string ⟨#[]⟩, .bool false, .int .i64 0, .int .i64 0, .int .i64 0, .slice none 0 0] 118); have h2 := h1.later ((Below.refl _ _).alloc (Nat.le_refl _) (.cells #[.int .i64 0, .int .i64 ns, .string pre, .string ⟨#[]⟩, .int .i64 0, .string ⟨#[]⟩, .bool false, .int .i64 0, .int .i64 0, .int .i64 0, .slice none 0 0] 118)); have D2 := Lib.hid (show Blk (w1.alloc (.cells #[.int .i64 0, .int .i64 ns, .string pre, .string ⟨#[]⟩, .int .i64 0, .string ⟨#[]⟩, .bool false, .int .i64 0, .int .i64 0, .int .i64 0, .slice none 0 0] 118)) w1.heap.size [.int .i64 0, .int .i64 ns, .string pre, .string ⟨#[]⟩, .int .i64 0, .string ⟨#[]⟩, .bool false, .int .i64 0, .int .i64 0, .int .i64 0, .slice none 0 0] 118 from Blk.alloc [.int .i64 0, .int .i64 ns, .string pre, .string ⟨#[]⟩, .int .i64 0, .string ⟨#[]⟩, .bool false, .int .i64 0, .int .i64 0, .int .i64 0, .slice none 0 0] _); have HG2 := Lib.hid (show GB w (w1.alloc (.cells #[.int .i64 0, .int .i64 ns, .string pre, .string ⟨#[]⟩, .int .i64 0, .string ⟨#[]⟩, .bool false, .int .i64 0, .int .i64 0, .int .i64 0, .slice none 0 0] 118)) p from ((GB.of_below HB0.out).trans hg1).trans (GB.of_below ((Below.refl _ _).alloc (Nat.le_refl _) (.cells #[.int .i64 0, .int .i64 ns, .string pre, .string ⟨#[]⟩, .int .i64 0, .string ⟨#[]⟩, .bool false, .int .i64 0, .int .i64 0, .int .i64 0, .slice none 0 0] 118)))); have HO2 := Lib.hid O1; have H2 := Lib.hid h2; have HW1 := Lib.hid (show w.heap.size < w1.heap.size from Nat.lt_of_lt_of_le (by simp) hg1.size); have f2 := ename_any h2 k (by have := HK.out; omega); rw [HNM.out] at f2; clear O1 h1 h2 hg1)
        | (go_at_call 103; (with_reducible refine f2.mono ?_); rintro e w3 ⟨rfl, hb3⟩; have f3 := esign_any (H2.out.later hb3) k (by have := HK.out; omega) ⟨#[42]⟩; rw [HSG.out] at f3; have HO3 := Lib.hid (owns_laterE hb3 HO2.out); have D3 := Lib.hid (D2.out.later hb3 D2.out.lt); have H3 := Lib.hid (H2.out.later hb3); have HG3 := Lib.hid (HG2.out.trans (GB.of_below hb3)))
        | (go_at_call 104; (with_reducible refine f3.mono ?_); rintro e w4 ⟨rfl, hb4⟩; have d0 := (D3.out.later hb4 D3.out.lt).cell 0 _ rfl; have HO4 := Lib.hid (owns_laterE hb4 HO3.out); have H4 := Lib.hid (H3.out.later hb4); have HG4 := Lib.hid (HG3.out.trans (GB.of_below hb4)))
        | fail)
      go_loopw [11, 13] (fun v i wr => ∃ (kk : Nat) (st' : Es) (out : List (Sm d)) (f : Nat), i = .int .i64 kk ∧ Hid (RowG 118 11 celS (RS d) wr w.heap.size v out) ∧ Hid (EyeAt wr p E ts ps st') ∧ Hid (GB w wr p) ∧ Hid (kk ≤ 3000000 ∧ f + out.length ≤ 1000011) ∧ Hid (compGo S ts f kk st' out = some RR)) (fun v _ _ => 1000011 - lenV v)
      case atStart => exact ⟨k, st1, [], ts.length + 10, rfl, Lib.hid (RowG.nil HO4.out), H4, HG4, Lib.hid ⟨by have := HK.out; omega, by have := HSM.out; show _ + 0 ≤ _; omega⟩, HRR⟩
      case round =>
        obtain ⟨kk, st', out, f, rfl, HR, HEr, HGr, HKr, HM⟩ := hrel
        have hLV := HR.out.lenV
        have hkk := HKr.out.1
        have hkkI : (kk : Int) ≤ 3000000 := by omega
        have c5 := HEr.out.blk.cell 5 _ rfl
        obtain ⟨va, vc, rfl, hRd⟩ := HR.out.rd (RS_moves d) celS_len (by have := HKr.out.2; omega)
        obtain ⟨f, rfl⟩ : ∃ g, f = g + 1 := by
          cases f with
          | zero => exact absurd HM.out (by unfold compGo; simp)
          | succ g => exact ⟨g, rfl⟩
        have hM := HM.out
        unfold compGo at hM
        have HRd := Lib.hid (RsOf.imp hRd (fun b hb => hb) (fun b o x hb hx => RS.simple hx))
        have hnI : out.length ≤ 1000010 := by have := HKr.out.2; omega
        have HNI := Lib.hid hnI
        have HF := Lib.hid (show f + 1 + out.length ≤ 1000011 from HKr.out.2)
        clear hRd HM HKr hLV hkk
        by_cases he : st'.err = 0
        · rw [if_pos he] at hM
          have q : (st'.err == 0) = true := beq_iff_eq.2 he
          cases hSk : S kk st' out with
          | none => rw [hSk] at hM; cases hM
          | some x =>
            obtain ⟨⟨xf, xl⟩, to, st2⟩ := x
            rw [hSk] at hM
            dsimp only at hM
            have fS := HSC.out wr st' kk out va vc HEr.out (by omega) (RsOf.imp HRd.out (fun b hb => ⟨hb.2, by have := hb.1; have := HLT.out; omega⟩) (fun b o x hb hx => hx.move rfl (fun _ _ _ _ hl => RdL.move (fun b hb => ⟨⟨hb.2, by have := hb.1; have := HLT.out; omega⟩, rfl⟩) hl))) _ hSk
            have fS := fS.mono (R' := fun e w5 => ∃ xa xn xc, e = .returned (.tuple #[.agg #[.int .i64 xf.kind, .int .i64 xf.ns, .string xf.pre, .string xf.name, .int .i64 xf.op, .string xf.text, .bool xf.fold, .int .i64 xf.mark, .int .i64 xf.a, .int .i64 xf.b, .slice xa xn xc], .int .i64 (to : Nat)]) ∧ RS d (okN wr.heap.size w5) w5 xa xn xc (xf, xl) ∧ EyeAt w5 p E ts ps st2 ∧ GB wr w5 p) (fun e w' h => h)
            clear he hSk
            by_cases ht : to = kk
            · subst ht
              rw [if_pos rfl] at hM
              have q2 : ((to : Int) == (to : Int)) = true := beq_self_eq_true _
              obtain rfl := Option.some.inj hM
              clear hM
              obtain ⟨nn, hnn⟩ : ∃ nn, out.length = nn := ⟨_, rfl⟩
              have HRd := Lib.hid (hnn ▸ HRd.out : RsOf (okN w.heap.size wr) 11 (SimpleAt (RdL (okN w.heap.size wr) d wr) wr) va nn vc out)
              rw [hnn] at fS hnI ⊢
              have HNN := Lib.hid hnn
              clear hnn
              by_cases h0 : nn = 0
              · subst h0
                have HZ := Lib.hid (show compEnd ts st2 out.length to = eFail ts st2 10 to from by rw [HNN.out]; exact if_pos rfl)
                go_wp2_with (first
                  | (go_at_call 105; (with_reducible refine fS.mono ?_); rintro e w5 ⟨xa, xn, xc, rfl, hxr, h5, hg5⟩; have H5 := Lib.hid (h5.later ((Below.refl _ _).alloc (Nat.le_refl _) (.cells #[.int .i64 xf.kind, .int .i64 xf.ns, .string xf.pre, .string xf.name, .int .i64 xf.op, .string xf.text, .bool xf.fold, .int .i64 xf.mark, .int .i64 xf.a, .int .i64 xf.b, .slice xa xn xc] 118))); have HG5 := Lib.hid (hg5.trans (GB.of_below ((Below.refl _ _).alloc (Nat.le_refl _) (.cells #[.int .i64 xf.kind, .int .i64 xf.ns, .string xf.pre, .string xf.name, .int .i64 xf.op, .string xf.text, .bool xf.fold, .int .i64 xf.mark, .int .i64 xf.a, .int .i64 xf.b, .slice xa xn xc] 118)))); clear h5 hg5 hxr; have f9 := efail_any H5.out 10 to (by omega))
                  | (go_at_call 56; go_loud (with_reducible refine f9.mono ?_); rintro e w9 ⟨rfl, h9, hg9⟩))
                exact ECP_end (by simp [results, Tryz.results69, go_sem]) HNN.out HRd.out HLT.out ((HGr.out.trans HG5.out).trans hg9) ((HG5.out).trans hg9) (by rw [HZ.out]; exact h9) rfl
              · have hn0 : ((nn : Int) == 0) = false := beq_eq_false_iff_ne.2 (by omega)
                have HZ := Lib.hid (show compEnd ts st2 out.length to = st2 from by rw [HNN.out]; exact if_neg h0)
                go_wp2_with (first
                  | (go_at_call 105; (with_reducible refine fS.mono ?_); rintro e w5 ⟨xa, xn, xc, rfl, hxr, h5, hg5⟩; have H5 := Lib.hid (h5.later ((Below.refl _ _).alloc (Nat.le_refl _) (.cells #[.int .i64 xf.kind, .int .i64 xf.ns, .string xf.pre, .string xf.name, .int .i64 xf.op, .string xf.text, .bool xf.fold, .int .i64 xf.mark, .int .i64 xf.a, .int .i64 xf.b, .slice xa xn xc] 118))); have HG5 := Lib.hid (hg5.trans (GB.of_below ((Below.refl _ _).alloc (Nat.le_refl _) (.cells #[.int .i64 xf.kind, .int .i64 xf.ns, .string xf.pre, .string xf.name, .int .i64 xf.op, .string xf.text, .bool xf.fold, .int .i64 xf.mark, .int .i64 xf.a, .int .i64 xf.b, .slice xa xn xc] 118)))); clear h5 hg5 hxr; skip)
                  | fail)
                exact ECP_end (by simp [results, Tryz.results69, go_sem]) HNN.out HRd.out HLT.out (HGr.out.trans HG5.out) (HG5.out) (by rw [HZ.out]; exact H5.out) rfl
            · rw [if_neg ht] at hM
              have q2 : ((to : Int) == (kk : Int)) = false := beq_eq_false_iff_ne.2 (by omega)
              by_cases hto : to ≤ 3000000
              · rw [if_pos hto] at hM
                have htI : (to : Int) ≤ 3000000 := by omega
                have HM2 := Lib.hid hM
                have HTO := Lib.hid hto
                clear hM ht hto
                have HOB := Lib.hid (fun g (hg : (Value.slice va out.length vc).ownBlock = some g) => own_blkG HR.out hg)
                by_cases h13 : xf.kind = 13
                · have k13 : (xf.kind == 13) = true := beq_iff_eq.2 h13
                  have HM3 := Lib.hid (show some (out ++ [(xf, xl)], to, true, st2) = some RR from by have := HM2.out; rwa [if_pos h13] at this)
                  clear h13
                  go_wp2_with (first
                    | (go_at_call 105; (with_reducible refine fS.mono ?_); rintro e w5 ⟨xa, xn, xc, rfl, hxr, h5, hg5⟩; have hg6 : GB wr (w5.alloc (.cells #[.int .i64 xf.kind, .int .i64 xf.ns, .string xf.pre, .string xf.name, .int .i64 xf.op, .string xf.text, .bool xf.fold, .int .i64 xf.mark, .int .i64 xf.a, .int .i64 xf.b, .slice xa xn xc] 118)) p := hg5.trans (GB.of_below ((Below.refl _ _).alloc (Nat.le_refl _) (.cells #[.int .i64 xf.kind, .int .i64 xf.ns, .string xf.pre, .string xf.name, .int .i64 xf.op, .string xf.text, .bool xf.fold, .int .i64 xf.mark, .int .i64 xf.a, .int .i64 xf.b, .slice xa xn xc] 118))); have hg7 : GB wr ((w5.alloc (.cells #[.int .i64 xf.kind, .int .i64 xf.ns, .string xf.pre, .string xf.name, .int .i64 xf.op, .string xf.text, .bool xf.fold, .int .i64 xf.mark, .int .i64 xf.a, .int .i64 xf.b, .slice xa xn xc] 118)).alloc (.cells #[.int .i64 xf.kind, .int .i64 xf.ns, .string xf.pre, .string xf.name, .int .i64 xf.op, .string xf.text, .bool xf.fold, .int .i64 xf.mark, .int .i64 xf.a, .int .i64 xf.b, .slice xa xn xc] 118)) p := hg6.trans (GB.of_below ((Below.refl _ _).alloc (Nat.le_refl _) (.cells #[.int .i64 xf.kind, .int .i64 xf.ns, .string xf.pre, .string xf.name, .int .i64 xf.op, .string xf.text, .bool xf.fold, .int .i64 xf.mark, .int .i64 xf.a, .int .i64 xf.b, .slice xa xn xc] 118))); have HR7 := Lib.hid (HR.out.keep (RS_moves d) HLT.out hg7); have h7 := (h5.later ((Below.refl _ _).alloc (Nat.le_refl _) (.cells #[.int .i64 xf.kind, .int .i64 xf.ns, .string xf.pre, .string xf.name, .int .i64 xf.op, .string xf.text, .bool xf.fold, .int .i64 xf.mark, .int .i64 xf.a, .int .i64 xf.b, .slice xa xn xc] 118))).later ((Below.refl _ _).alloc (Nat.le_refl _) (.cells #[.int .i64 xf.kind, .int .i64 xf.ns, .string xf.pre, .string xf.name, .int .i64 xf.op, .string xf.text, .bool xf.fold, .int .i64 xf.mark, .int .i64 xf.a, .int .i64 xf.b, .slice xa xn xc] 118)); have H7 := Lib.hid h7; have D7 := Lib.hid (show Blk ((w5.alloc (.cells #[.int .i64 xf.kind, .int .i64 xf.ns, .string xf.pre, .string xf.name, .int .i64 xf.op, .string xf.text, .bool xf.fold, .int .i64 xf.mark, .int .i64 xf.a, .int .i64 xf.b, .slice xa xn xc] 118)).alloc (.cells #[.int .i64 xf.kind, .int .i64 xf.ns, .string xf.pre, .string xf.name, .int .i64 xf.op, .string xf.text, .bool xf.fold, .int .i64 xf.mark, .int .i64 xf.a, .int .i64 xf.b, .slice xa xn xc] 118)) w5.heap.size [.int .i64 xf.kind, .int .i64 xf.ns, .string xf.pre, .string xf.name, .int .i64 xf.op, .string xf.text, .bool xf.fold, .int .i64 xf.mark, .int .i64 xf.a, .int .i64 xf.b, .slice xa xn xc] 118 from (Blk.alloc [.int .i64 xf.kind, .int .i64 xf.ns, .string xf.pre, .string xf.name, .int .i64 xf.op, .string xf.text, .bool xf.fold, .int .i64 xf.mark, .int .i64 xf.a, .int .i64 xf.b, .slice xa xn xc] _).alloc_old (.cells #[.int .i64 xf.kind, .int .i64 xf.ns, .string xf.pre, .string xf.name, .int .i64 xf.op, .string xf.text, .bool xf.fold, .int .i64 xf.mark, .int .i64 xf.a, .int .i64 xf.b, .slice xa xn xc] 118)); have E7 := Lib.hid (show Blk ((w5.alloc (.cells #[.int .i64 xf.kind, .int .i64 xf.ns, .string xf.pre, .string xf.name, .int .i64 xf.op, .string xf.text, .bool xf.fold, .int .i64 xf.mark, .int .i64 xf.a, .int .i64 xf.b, .slice xa xn xc] 118)).alloc (.cells #[.int .i64 xf.kind, .int .i64 xf.ns, .string xf.pre, .string xf.name, .int .i64 xf.op, .string xf.text, .bool xf.fold, .int .i64 xf.mark, .int .i64 xf.a, .int .i64 xf.b, .slice xa xn xc] 118)) (w5.heap.size + 1) [.int .i64 xf.kind, .int .i64 xf.ns, .string xf.pre, .string xf.name, .int .i64 xf.op, .string xf.text, .bool xf.fold, .int .i64 xf.mark, .int .i64 xf.a, .int .i64 xf.b, .slice xa xn xc] 118 from by have hh : Blk ((w5.alloc (.cells #[.int .i64 xf.kind, .int .i64 xf.ns, .string xf.pre, .string xf.name, .int .i64 xf.op, .string xf.text, .bool xf.fold, .int .i64 xf.mark, .int .i64 xf.a, .int .i64 xf.b, .slice xa xn xc] 118)).alloc (.cells #[.int .i64 xf.kind, .int .i64 xf.ns, .string xf.pre, .string xf.name, .int .i64 xf.op, .string xf.text, .bool xf.fold, .int .i64 xf.mark, .int .i64 xf.a, .int .i64 xf.b, .slice xa xn xc] 118)) (w5.alloc (.cells #[.int .i64 xf.kind, .int .i64 xf.ns, .string xf.pre, .string xf.name, .int .i64 xf.op, .string xf.text, .bool xf.fold, .int .i64 xf.mark, .int .i64 xf.a, .int .i64 xf.b, .slice xa xn xc] 118)).heap.size [.int .i64 xf.kind, .int .i64 xf.ns, .string xf.pre, .string xf.name, .int .i64 xf.op, .string xf.text, .bool xf.fold, .int .i64 xf.mark, .int .i64 xf.a, .int .i64 xf.b, .slice xa xn xc] 118 := Blk.alloc [.int .i64 xf.kind, .int .i64 xf.ns, .string xf.pre, .string xf.name, .int .i64 xf.op, .string xf.text, .bool xf.fold, .int .i64 xf.mark, .int .i64 xf.a, .int .i64 xf.b, .slice xa xn xc] _; rwa [show (w5.alloc (.cells #[.int .i64 xf.kind, .int .i64 xf.ns, .string xf.pre, .string xf.name, .int .i64 xf.op, .string xf.text, .bool xf.fold, .int .i64 xf.mark, .int .i64 xf.a, .int .i64 xf.b, .slice xa xn xc] 118)).heap.size = w5.heap.size + 1 from by simp] at hh); have HX7 := Lib.hid (x_moves (v := .slice va out.length vc) (base := w.heap.size) HGr.out.size HOB.out hxr ((Below.refl _ _).alloc (Nat.le_refl _) (.cells #[.int .i64 xf.kind, .int .i64 xf.ns, .string xf.pre, .string xf.name, .int .i64 xf.op, .string xf.text, .bool xf.fold, .int .i64 xf.mark, .int .i64 xf.a, .int .i64 xf.b, .slice xa xn xc] 118)) ((Below.refl _ _).alloc (Nat.le_refl _) (.cells #[.int .i64 xf.kind, .int .i64 xf.ns, .string xf.pre, .string xf.name, .int .i64 xf.op, .string xf.text, .bool xf.fold, .int .i64 xf.mark, .int .i64 xf.a, .int .i64 xf.b, .slice xa xn xc] 118))); have HG7 := Lib.hid (HGr.out.trans hg7); have HS5 := Lib.hid hg5.size; clear hxr h5 hg5 hg6 hg7 h7)
                    | (at_builtin; obtain ⟨ys, hy1, hy2, hy3⟩ := HR7.out; refine wpList_append_row2 rfl _ _ 112 rfl w.heap.size 118 iS _ 11 128 Tryz.underlying112 HIS.out.1 HIS.out.2.1 rfl (by decide) HIS.out.2.2.1 HIS.out.2.2.2 (.slice va out.length vc) out.length _ rfl hy2 ⟨w5.heap.size + 1, 0, none⟩ 1 (celS (d := d) (xf, xl) xa xn xc) rfl rfl (celS_one _ _ _ _) (fun j u hu => by rw [show (⟨w5.heap.size + 1, 0, none⟩ : Addr).add j = ⟨w5.heap.size + 1, j, none⟩ from by simp [Addr.add]; intro hj; exact hj.symm]; exact E7.out.cell j u hu) (by unfold maxLen; omega) (by omega) (by have := HG7.out.size; omega) ?_; intro v8 w8 hown8 hgr8 hv8; have HR8 := Lib.hid (RowG.snoc (RS_moves d) hy1 hy3 HX7.out hown8 hgr8 hv8); have HG8 := Lib.hid (gb_own HG7.out hgr8 (fun g hg => (HOB.out g hg).1)); have HB8 := Lib.hid (H7.out.blk.kept hgr8 (fun hh => by have := (HOB.out _ hh).1; have := HLT.out; omega)); have k8 := (D7.out.kept hgr8 (fun hh => by have := (HOB.out _ hh).2; have := HS5.out; omega)).cell 0 _ rfl; clear hy1 hy2 hy3 hown8 hgr8 hv8))
                  obtain rfl := Option.some.inj HM3.out
                  obtain ⟨a8, c8, rfl, hRd8⟩ := HR8.out.rd (RS_moves d) celS_len (by rw [List.length_append]; have := HNI.out; simp; omega)
                  exact ECP_end (by simp [results, Tryz.results69, go_sem]) rfl (RsOf.imp hRd8 (fun b hb => hb) (fun b o x hb hx => RS.simple hx)) HLT.out HG8.out (World.grownBy.refl _ _) (HE.out.grown HG8.out HB8.out) rfl
                · have k13 : (xf.kind == 13) = false := beq_eq_false_iff_ne.2 h13
                  have HM3 := Lib.hid (show compGo S ts f to st2 (out ++ [(xf, xl)]) = some RR from by have := HM2.out; rwa [if_neg h13] at this)
                  clear h13
                  go_wp2_with (first
                    | (go_at_call 105; (with_reducible refine fS.mono ?_); rintro e w5 ⟨xa, xn, xc, rfl, hxr, h5, hg5⟩; have hg6 : GB wr (w5.alloc (.cells #[.int .i64 xf.kind, .int .i64 xf.ns, .string xf.pre, .string xf.name, .int .i64 xf.op, .string xf.text, .bool xf.fold, .int .i64 xf.mark, .int .i64 xf.a, .int .i64 xf.b, .slice xa xn xc] 118)) p := hg5.trans (GB.of_below ((Below.refl _ _).alloc (Nat.le_refl _) (.cells #[.int .i64 xf.kind, .int .i64 xf.ns, .string xf.pre, .string xf.name, .int .i64 xf.op, .string xf.text, .bool xf.fold, .int .i64 xf.mark, .int .i64 xf.a, .int .i64 xf.b, .slice xa xn xc] 118))); have hg7 : GB wr ((w5.alloc (.cells #[.int .i64 xf.kind, .int .i64 xf.ns, .string xf.pre, .string xf.name, .int .i64 xf.op, .string xf.text, .bool xf.fold, .int .i64 xf.mark, .int .i64 xf.a, .int .i64 xf.b, .slice xa xn xc] 118)).alloc (.cells #[.int .i64 xf.kind, .int .i64 xf.ns, .string xf.pre, .string xf.name, .int .i64 xf.op, .string xf.text, .bool xf.fold, .int .i64 xf.mark, .int .i64 xf.a, .int .i64 xf.b, .slice xa xn xc] 118)) p := hg6.trans (GB.of_below ((Below.refl _ _).alloc (Nat.le_refl _) (.cells #[.int .i64 xf.kind, .int .i64 xf.ns, .string xf.pre, .string xf.name, .int .i64 xf.op, .string xf.text, .bool xf.fold, .int .i64 xf.mark, .int .i64 xf.a, .int .i64 xf.b, .slice xa xn xc] 118))); have HR7 := Lib.hid (HR.out.keep (RS_moves d) HLT.out hg7); have h7 := (h5.later ((Below.refl _ _).alloc (Nat.le_refl _) (.cells #[.int .i64 xf.kind, .int .i64 xf.ns, .string xf.pre, .string xf.name, .int .i64 xf.op, .string xf.text, .bool xf.fold, .int .i64 xf.mark, .int .i64 xf.a, .int .i64 xf.b, .slice xa xn xc] 118))).later ((Below.refl _ _).alloc (Nat.le_refl _) (.cells #[.int .i64 xf.kind, .int .i64 xf.ns, .string xf.pre, .string xf.name, .int .i64 xf.op, .string xf.text, .bool xf.fold, .int .i64 xf.mark, .int .i64 xf.a, .int .i64 xf.b, .slice xa xn xc] 118)); have H7 := Lib.hid h7; have D7 := Lib.hid (show Blk ((w5.alloc (.cells #[.int .i64 xf.kind, .int .i64 xf.ns, .string xf.pre, .string xf.name, .int .i64 xf.op, .string xf.text, .bool xf.fold, .int .i64 xf.mark, .int .i64 xf.a, .int .i64 xf.b, .slice xa xn xc] 118)).alloc (.cells #[.int .i64 xf.kind, .int .i64 xf.ns, .string xf.pre, .string xf.name, .int .i64 xf.op, .string xf.text, .bool xf.fold, .int .i64 xf.mark, .int .i64 xf.a, .int .i64 xf.b, .slice xa xn xc] 118)) w5.heap.size [.int .i64 xf.kind, .int .i64 xf.ns, .string xf.pre, .string xf.name, .int .i64 xf.op, .string xf.text, .bool xf.fold, .int .i64 xf.mark, .int .i64 xf.a, .int .i64 xf.b, .slice xa xn xc] 118 from (Blk.alloc [.int .i64 xf.kind, .int .i64 xf.ns, .string xf.pre, .string xf.name, .int .i64 xf.op, .string xf.text, .bool xf.fold, .int .i64 xf.mark, .int .i64 xf.a, .int .i64 xf.b, .slice xa xn xc] _).alloc_old (.cells #[.int .i64 xf.kind, .int .i64 xf.ns, .string xf.pre, .string xf.name, .int .i64 xf.op, .string xf.text, .bool xf.fold, .int .i64 xf.mark, .int .i64 xf.a, .int .i64 xf.b, .slice xa xn xc] 118)); have E7 := Lib.hid (show Blk ((w5.alloc (.cells #[.int .i64 xf.kind, .int .i64 xf.ns, .string xf.pre, .string xf.name, .int .i64 xf.op, .string xf.text, .bool xf.fold, .int .i64 xf.mark, .int .i64 xf.a, .int .i64 xf.b, .slice xa xn xc] 118)).alloc (.cells #[.int .i64 xf.kind, .int .i64 xf.ns, .string xf.pre, .string xf.name, .int .i64 xf.op, .string xf.text, .bool xf.fold, .int .i64 xf.mark, .int .i64 xf.a, .int .i64 xf.b, .slice xa xn xc] 118)) (w5.heap.size + 1) [.int .i64 xf.kind, .int .i64 xf.ns, .string xf.pre, .string xf.name, .int .i64 xf.op, .string xf.text, .bool xf.fold, .int .i64 xf.mark, .int .i64 xf.a, .int .i64 xf.b, .slice xa xn xc] 118 from by have hh : Blk ((w5.alloc (.cells #[.int .i64 xf.kind, .int .i64 xf.ns, .string xf.pre, .string xf.name, .int .i64 xf.op, .string xf.text, .bool xf.fold, .int .i64 xf.mark, .int .i64 xf.a, .int .i64 xf.b, .slice xa xn xc] 118)).alloc (.cells #[.int .i64 xf.kind, .int .i64 xf.ns, .string xf.pre, .string xf.name, .int .i64 xf.op, .string xf.text, .bool xf.fold, .int .i64 xf.mark, .int .i64 xf.a, .int .i64 xf.b, .slice xa xn xc] 118)) (w5.alloc (.cells #[.int .i64 xf.kind, .int .i64 xf.ns, .string xf.pre, .string xf.name, .int .i64 xf.op, .string xf.text, .bool xf.fold, .int .i64 xf.mark, .int .i64 xf.a, .int .i64 xf.b, .slice xa xn xc] 118)).heap.size [.int .i64 xf.kind, .int .i64 xf.ns, .string xf.pre, .string xf.name, .int .i64 xf.op, .string xf.text, .bool xf.fold, .int .i64 xf.mark, .int .i64 xf.a, .int .i64 xf.b, .slice xa xn xc] 118 := Blk.alloc [.int .i64 xf.kind, .int .i64 xf.ns, .string xf.pre, .string xf.name, .int .i64 xf.op, .string xf.text, .bool xf.fold, .int .i64 xf.mark, .int .i64 xf.a, .int .i64 xf.b, .slice xa xn xc] _; rwa [show (w5.alloc (.cells #[.int .i64 xf.kind, .int .i64 xf.ns, .string xf.pre, .string xf.name, .int .i64 xf.op, .string xf.text, .bool xf.fold, .int .i64 xf.mark, .int .i64 xf.a, .int .i64 xf.b, .slice xa xn xc] 118)).heap.size = w5.heap.size + 1 from by simp] at hh); have HX7 := Lib.hid (x_moves (v := .slice va out.length vc) (base := w.heap.size) HGr.out.size HOB.out hxr ((Below.refl _ _).alloc (Nat.le_refl _) (.cells #[.int .i64 xf.kind, .int .i64 xf.ns, .string xf.pre, .string xf.name, .int .i64 xf.op, .string xf.text, .bool xf.fold, .int .i64 xf.mark, .int .i64 xf.a, .int .i64 xf.b, .slice xa xn xc] 118)) ((Below.refl _ _).alloc (Nat.le_refl _) (.cells #[.int .i64 xf.kind, .int .i64 xf.ns, .string xf.pre, .string xf.name, .int .i64 xf.op, .string xf.text, .bool xf.fold, .int .i64 xf.mark, .int .i64 xf.a, .int .i64 xf.b, .slice xa xn xc] 118))); have HG7 := Lib.hid (HGr.out.trans hg7); have HS5 := Lib.hid hg5.size; clear hxr h5 hg5 hg6 hg7 h7)
                    | (at_builtin; obtain ⟨ys, hy1, hy2, hy3⟩ := HR7.out; refine wpList_append_row2 rfl _ _ 112 rfl w.heap.size 118 iS _ 11 128 Tryz.underlying112 HIS.out.1 HIS.out.2.1 rfl (by decide) HIS.out.2.2.1 HIS.out.2.2.2 (.slice va out.length vc) out.length _ rfl hy2 ⟨w5.heap.size + 1, 0, none⟩ 1 (celS (d := d) (xf, xl) xa xn xc) rfl rfl (celS_one _ _ _ _) (fun j u hu => by rw [show (⟨w5.heap.size + 1, 0, none⟩ : Addr).add j = ⟨w5.heap.size + 1, j, none⟩ from by simp [Addr.add]; intro hj; exact hj.symm]; exact E7.out.cell j u hu) (by unfold maxLen; omega) (by omega) (by have := HG7.out.size; omega) ?_; intro v8 w8 hown8 hgr8 hv8; have HR8 := Lib.hid (RowG.snoc (RS_moves d) hy1 hy3 HX7.out hown8 hgr8 hv8); have HG8 := Lib.hid (gb_own HG7.out hgr8 (fun g hg => (HOB.out g hg).1)); have HB8 := Lib.hid (H7.out.blk.kept hgr8 (fun hh => by have := (HOB.out _ hh).1; have := HLT.out; omega)); have k8 := (D7.out.kept hgr8 (fun hh => by have := (HOB.out _ hh).2; have := HS5.out; omega)).cell 0 _ rfl; clear hy1 hy2 hy3 hown8 hgr8 hv8))
                  go_roundw
                  case rel => exact ⟨to, st2, out ++ [(xf, xl)], f, rfl, HR8, Lib.hid (HE.out.grown HG8.out HB8.out), HG8, Lib.hid ⟨HTO.out, by rw [List.length_append]; have := HF.out; simp; omega⟩, HM3⟩
                  case measure =>
                    have hl := HR8.out.lenV
                    rw [List.length_append] at hl
                    rw [hl]
                    have := HNI.out
                    show _ < 1000011 - out.length
                    simp
                    omega
              · rw [if_neg hto] at hM; cases hM
        · rw [if_neg he] at hM
          have q : (st'.err == 0) = false := beq_eq_false_iff_ne.2 he
          obtain rfl := Option.some.inj hM
          clear he hM
          obtain ⟨nn, hnn⟩ : ∃ nn, out.length = nn := ⟨_, rfl⟩
          have HRd := Lib.hid (hnn ▸ HRd.out : RsOf (okN w.heap.size wr) 11 (SimpleAt (RdL (okN w.heap.size wr) d wr) wr) va nn vc out)
          rw [hnn] at hnI ⊢
          have HNN := Lib.hid hnn
          clear hnn
          by_cases h0 : nn = 0
          · subst h0
            have f9 := efail_any HEr.out 10 kk (by omega)
            have HZ := Lib.hid (show compEnd ts st' out.length kk = eFail ts st' 10 kk from by rw [HNN.out]; exact if_pos rfl)
            go_wp2_with (first
              | (go_at_call 56; go_loud (with_reducible refine f9.mono ?_); rintro e w9 ⟨rfl, h9, hg9⟩))
            exact ECP_end (by simp [results, Tryz.results69, go_sem]) HNN.out HRd.out HLT.out (HGr.out.trans hg9) (hg9) (by rw [HZ.out]; exact h9) rfl
          · have hn0 : ((nn : Int) == 0) = false := beq_eq_false_iff_ne.2 (by omega)
            have HZ := Lib.hid (show compEnd ts st' out.length kk = st' from by rw [HNN.out]; exact if_neg h0)
            go_wp2
            exact ECP_end (by simp [results, Tryz.results69, go_sem]) HNN.out HRd.out HLT.out HGr.out (World.grownBy.refl _ _) (by rw [HZ.out]; exact HEr.out) rfl
end
end Go.Proofs.YtcfhggdiccilaaaGreat
