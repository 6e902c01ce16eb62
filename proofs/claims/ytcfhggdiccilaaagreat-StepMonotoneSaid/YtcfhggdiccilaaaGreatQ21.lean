/- Texts of mine in one: Eya Eyb. -/
import Derived.Test.YtcfhggdiccilaaaGreatQ12
namespace Go.Proofs.YtcfhggdiccilaaaGreat
section
open Go.RowKit
set_option linter.unusedVariables false
set_option linter.unusedSimpArgs false
abbrev Cm (d : Nat) := Int × List (Sm d)
def celC {d : Nat} (x : Cm d) (a : Option Addr) (n c : Nat) : List Value := [.int .i64 x.1, .slice a n c]
theorem celC_len {d : Nat} (x : Cm d) (a : Option Addr) (n c : Nat) : (celC x a n c).length = 2 := rfl
theorem celC_one {d : Nat} (x : Cm d) (a : Option Addr) (n c : Nat) : ∀ u ∈ celC x a n c, u.oneCell' = true := by
  intro u hu
  simp only [celC, List.mem_cons, List.not_mem_nil, or_false] at hu
  rcases hu with rfl | rfl <;> rfl
def RC (d : Nat) (ok : Nat → Prop) (w : World) (a : Option Addr) (n c : Nat) (x : Cm d) : Prop := RsOf ok 11 (SimpleAt (RdL ok d w) w) a n c x.2
theorem RC_moves (d : Nat) : Moves (RC d) := fun ok ok' w w' a n c x ho h =>
  RsOf.imp h (fun b hb => (ho b hb).1) (fun b o y hb hy => hy.move (ho b hb).2 (fun _ _ _ _ hl => RdL.move ho hl))
theorem RC.comp {d : Nat} {ok : Nat → Prop} {w : World} {b o : Nat} {x : Cm d} (h : ∃ a n c, (∀ f u, (celC x a n c)[f]? = some u → w.cell? ⟨b, o + f, none⟩ = some u) ∧ RC d ok w a n c x) : CompAt ok (RdL ok d w) w b o x := by
  obtain ⟨a, n, c, h1, h2⟩ := h
  exact ⟨h1 0 _ rfl, a, n, c, h1 1 _ rfl, h2⟩
abbrev Xm (d : Nat) := List (Cm d)
def celX {d : Nat} (x : Xm d) (a : Option Addr) (n c : Nat) : List Value := [.slice a n c]
theorem celX_len {d : Nat} (x : Xm d) (a : Option Addr) (n c : Nat) : (celX x a n c).length = 1 := rfl
theorem celX_one {d : Nat} (x : Xm d) (a : Option Addr) (n c : Nat) : ∀ u ∈ celX x a n c, u.oneCell' = true := by
  intro u hu
  simp only [celX, List.mem_cons, List.not_mem_nil, or_false] at hu
  subst hu
  rfl
def RX (d : Nat) (ok : Nat → Prop) (w : World) (a : Option Addr) (n c : Nat) (x : Xm d) : Prop := RdX ok (RdL ok d w) w a n c x
theorem RX_moves (d : Nat) : Moves (RX d) := fun ok ok' w w' a n c x ho h => RdX.move h ho (fun _ _ _ _ hl => RdL.move ho hl)
theorem RX.complex {d : Nat} {ok : Nat → Prop} {w : World} {b o : Nat} {x : Xm d} (h : ∃ a n c, (∀ f u, (celX x a n c)[f]? = some u → w.cell? ⟨b, o + f, none⟩ = some u) ∧ RX d ok w a n c x) : ComplexAt ok (RdL ok d w) w b o x := by
  obtain ⟨a, n, c, h1, h2⟩ := h
  exact ⟨a, n, c, h1 0 _ rfl, h2⟩
def complexGo {d : Nat} (C : Nat → Es → Option (List (Sm d) × Nat × Bool × Es)) (ts : List Tk) (end' : Int) : Nat → Nat → Int → Es → Xm d → Option (Xm d × Nat × Es)
  | 0, _, _, _, _ => none
  | f + 1, i, comb, st, out =>
    if st.err = 0 then
      match C i st with
      | none => none
      | some (x, to, pseudo, st') =>
        if to ≤ 2000000 then
          let k := eBlanks ts to
          if st'.err = 0 ∧ (eTok ts k).kind ≠ end' ∧ (eTok ts k).kind ≠ 18 then
            if pseudo = true ∨ (eComb ts k = 0 ∧ k = to) then complexGo C ts end' f i (eComb ts k) (eFail ts st' 10 k) (out ++ [(comb, x)])
            else if eComb ts k = 0 then complexGo C ts end' f k 1 st' (out ++ [(comb, x)])
            else complexGo C ts end' f (eBlanks ts (k + 1)) (eComb ts k) st' (out ++ [(comb, x)])
          else some (out ++ [(comb, x)], k, st')
        else none
    else some (out, i, st)
def listGo {d : Nat} (X : Nat → Es → Option (Xm d × Nat × Es)) (ts : List Tk) (end' : Int) : Nat → Nat → Es → List (Xm d) → Option (List (Xm d) × Nat × Es)
  | 0, _, _, _ => none
  | f + 1, i, st, out =>
    if st.err = 0 then
      match X (eBlanks ts i) st with
      | none => none
      | some (x, to, st') =>
        if to ≤ 2000000 then
          let k := eBlanks ts to
          if st'.err = 0 ∧ (eTok ts k).kind ≠ end' then listGo X ts end' f (k + 1) (if (eTok ts k).kind = 18 then st' else eFail ts st' 10 k) (out ++ [x])
          else some (out ++ [x], k, st')
        else none
    else some (out, i, st)
end

section
open Go.RowKit
set_option linter.unusedVariables false
set_option linter.unusedSimpArgs false
theorem TryzinfoCmp : (Tryz.prog.info? 114).map (fun i => (i.zero, i.size, i.bytes)) = some (some (.agg #[.int .i64 0, .slice none 0 0]), 2, 32) := by kernel_rfl
theorem own_shape {w : World} {base n sz : Nat} {T : TypeId} {v : Value} {xs : List Value} (h : w.ownsRow base T sz v n xs) : ∃ a c, v = .slice a n c := by
  obtain ⟨_, ⟨rfl, rfl⟩ | ⟨g, cap, cur, rfl, _⟩⟩ := h
  · exact ⟨_, _, rfl⟩
  · exact ⟨_, _, rfl⟩
def CompC (d p : Nat) (E : Ey) (ts : List Tk) (ps : List ByteArray) (end' deep : Int) (C : Nat → Es → Option (List (Sm d) × Nat × Bool × Es)) : Prop :=
  ∀ (w : World) (st : Es) (i : Nat), EyeAt w p E ts ps st → i ≤ 2999990 → ∀ r, C i st = some r → Calls Tryz.prog 69 #[.pointer (some ⟨p, 0, none⟩), .int .i64 i, .int .i64 end', .int .i64 deep] w (ECP p E ts ps r w)
def EXP {d : Nat} (p : Nat) (E : Ey) (ts : List Tk) (ps : List ByteArray) (r : Xm d × Nat × Es) (w : World) (e : Ending) (w' : World) : Prop :=
  ∃ a c, e = .returned (.tuple #[.agg #[.slice a r.1.length c], .int .i64 r.2.1]) ∧ RX d (okN w.heap.size w') w' a r.1.length c r.1 ∧ EyeAt w' p E ts ps r.2.2 ∧ GB w w' p
theorem EXP_end {d p : Nat} {E : Ey} {ts : List Tk} {ps : List ByteArray} {w wL : World} {F : Func} {a : Act} {va : Option Addr} {n vc k : Nat} {out : Xm d} {st0 st' : Es}
    (hr : (results F a.tmps).run Tryz.prog (wL.setCell ⟨w.heap.size, 0, none⟩ (.slice va n vc)) = .ok (.tuple #[.agg #[.slice va n vc], .int .i64 (k : Nat)]) (wL.setCell ⟨w.heap.size, 0, none⟩ (.slice va n vc)))
    (hR : RowG 114 2 celC (RC d) wL (w.heap.size + 2) (.slice va n vc) out) (hl : out.length ≤ 100000000) (hg : GB w wL p) (hE : EyeAt wL p E ts ps st') (h0 : EyeAt w p E ts ps st0) (hd : a.defers = []) :
    bodyPost Tryz.prog F (EXP p E ts ps (out, k, st') w) Exit.ret a (wL.setCell ⟨w.heap.size, 0, none⟩ (.slice va n vc)) := by
  have hs := grown_setCell wL w.heap.size 0 (.slice va n vc)
  have hR' := hR.keep (RC_moves d) (p := w.heap.size) (by omega) hs
  obtain ⟨a', c', hv, hrd⟩ := hR'.rd (RC_moves d) celC_len hl
  cases hv
  have hlt := h0.blk.lt
  have hG := gb_own hg hs (fun g hg => by have := Option.some.inj hg; omega)
  have ho : ∀ b, okN (w.heap.size + 2) (wL.setCell ⟨w.heap.size, 0, none⟩ (.slice va out.length vc)) b → okN w.heap.size (wL.setCell ⟨w.heap.size, 0, none⟩ (.slice va out.length vc)) b := fun b hb => ⟨by have := hb.1; omega, hb.2⟩
  refine bodyPost_ret hr hd ⟨_, _, rfl, ?_, h0.grown hG (hE.blk.kept hs (fun hh => by have := Option.some.inj hh; omega)), hG⟩
  refine RsOf.imp hrd ho (fun b o x hb hx => ?_)
  obtain ⟨xa, xn, xc, h1, h2⟩ := hx
  exact RC.comp ⟨xa, xn, xc, h1, RC_moves d _ _ _ _ _ _ _ _ (fun b hb => ⟨ho b hb, rfl⟩) h2⟩
set_option maxRecDepth 100000 in
set_option maxHeartbeats 8000000 in
theorem ecomplex_any {d p : Nat} {E : Ey} {ts : List Tk} {ps : List ByteArray} {deep end' : Int} {C : Nat → Es → Option (List (Sm d) × Nat × Bool × Es)} (hC : CompC d p E ts ps end' deep C) {w : World} {st : Es} (h : EyeAt w p E ts ps st) (i : Nat) (hi2 : i ≤ 2900000) (RR : Xm d × Nat × Es) (hRR : complexGo C ts end' (ts.length + 10) i 0 st [] = some RR) :
    Calls Tryz.prog 53 #[.pointer (some ⟨p, 0, none⟩), .int .i64 i, .int .i64 end', .int .i64 deep] w (EXP p E ts ps RR w) := by
  obtain ⟨iC, hiC, hzC⟩ := Option.map_eq_some_iff.1 TryzinfoCmp
  simp only [Prod.mk.injEq] at hzC
  have HIC := Lib.hid (And.intro hiC hzC)
  clear hiC hzC
  have HE := Lib.hid h
  have HCC := Lib.hid hC
  have HI := Lib.hid hi2
  have HSM := Lib.hid h.small
  have HLT := Lib.hid h.blk.lt
  have HRR := Lib.hid hRR
  clear h hC hi2 hRR
  have hba := (Below.refl w.heap.size w).alloc (Nat.le_refl _) (.cells #[.slice none 0 0] 107)
  have hbb := hba.alloc hba.size (.cells #[.slice none 0 0] 107)
  have HZ0 := Lib.hid (show Blk ((w.alloc (.cells #[.slice none 0 0] 107)).alloc (.cells #[.slice none 0 0] 107)) w.heap.size [.slice none 0 0] 107 from (Blk.alloc [.slice none 0 0] _).alloc_old (.cells #[.slice none 0 0] 107))
  have HV0 := Lib.hid (show Blk ((w.alloc (.cells #[.slice none 0 0] 107)).alloc (.cells #[.slice none 0 0] 107)) (w.heap.size + 1) [.slice none 0 0] 107 from by
    have hh : Blk ((w.alloc (.cells #[.slice none 0 0] 107)).alloc (.cells #[.slice none 0 0] 107)) (w.alloc (.cells #[.slice none 0 0] 107)).heap.size [.slice none 0 0] 107 := Blk.alloc [.slice none 0 0] _
    rwa [show (w.alloc (.cells #[.slice none 0 0] 107)).heap.size = w.heap.size + 1 from by simp] at hh)
  have HBB := Lib.hid hbb
  clear hba hbb
  go_enter Tryz.func53, Tryz.ntmps53
  go_wp2_with fail
  go_loopw [1, 11] (fun iv cv wr => ∃ (ii : Nat) (cb : Int) (st' : Es) (out : Xm d) (f : Nat) (v : Value), iv = .int .i64 ii ∧ cv = .int .i64 cb ∧ Hid (RowG 114 2 celC (RC d) wr (w.heap.size + 2) v out) ∧ Hid (Blk wr w.heap.size [.slice none 0 0] 107) ∧ Hid (Blk wr (w.heap.size + 1) [v] 107) ∧ Hid (EyeAt wr p E ts ps st') ∧ Hid (GB w wr p) ∧ Hid (ii ≤ 2900000 ∧ f + out.length ≤ 1000011) ∧ Hid (w.heap.size + 2 ≤ wr.heap.size) ∧ Hid (complexGo C ts end' f ii cb st' out = some RR)) (fun _ _ wr => 1000011 - lenV ((wr.cell? ⟨w.heap.size + 1, 0, none⟩).getD (.bool false)))
  case atStart => exact ⟨i, 0, st, [], ts.length + 10, .slice none 0 0, rfl, rfl, Lib.hid (RowG.nil (World.ownsRow_nil _ _ _ _)), HZ0, HV0, Lib.hid (HE.out.later HBB.out), Lib.hid (GB.of_below HBB.out), Lib.hid ⟨HI.out, by have := HSM.out; show _ + 0 ≤ _; omega⟩, Lib.hid (by simp), HRR⟩
  case round =>
    obtain ⟨ii, cb, st', out, f, v, rfl, rfl, HR, HB0, HB1, HEr, HGr, HKr, HSZ, HM⟩ := hrel
    have hii := HKr.out.1
    have c5 := HEr.out.blk.cell 5 _ rfl
    obtain ⟨va, vc, rfl, hRd⟩ := HR.out.rd (RC_moves d) celC_len (by have := HKr.out.2; omega)
    obtain ⟨f, rfl⟩ : ∃ g, f = g + 1 := by
      cases f with
      | zero => exact absurd HM.out (by unfold complexGo; simp)
      | succ g => exact ⟨g, rfl⟩
    have hM := HM.out
    unfold complexGo at hM
    have HRd := Lib.hid hRd
    have hnI : out.length ≤ 1000010 := by have := HKr.out.2; omega
    have HNI := Lib.hid hnI
    have HF := Lib.hid (show f + 1 + out.length ≤ 1000011 from HKr.out.2)
    have HOB := Lib.hid (fun g (hg : (Value.slice va out.length vc).ownBlock = some g) => own_blkG HR.out hg)
    clear hRd HM HKr
    by_cases he : st'.err = 0
    · rw [if_pos he] at hM
      have q : (st'.err == 0) = true := beq_iff_eq.2 he
      cases hCk : C ii st' with
      | none => rw [hCk] at hM; cases hM
      | some r0 =>
        obtain ⟨x, to, psd, st2⟩ := r0
        rw [hCk] at hM
        dsimp only at hM
        have fC := HCC.out wr st' ii HEr.out (by omega) _ hCk
        by_cases hto : to ≤ 2000000
        · rw [if_pos hto] at hM
          have hmx := eBlanks_max ts to
          have hsm := HSM.out
          have hmy := eBlanks_max ts (eBlanks ts to + 1)
          obtain ⟨k, hk⟩ : ∃ k, eBlanks ts to = k := ⟨_, rfl⟩
          obtain ⟨nx, hnx⟩ : ∃ nx, eBlanks ts (k + 1) = nx := ⟨_, rfl⟩
          obtain ⟨kd, hkd⟩ : ∃ kd, (eTok ts k).kind = kd := ⟨_, rfl⟩
          obtain ⟨c2, hc2⟩ : ∃ c2, eComb ts k = c2 := ⟨_, rfl⟩
          rw [hk] at hM hmx hmy
          rw [hnx] at hmy
          rw [hkd, hc2, hnx] at hM
          have HKK := Lib.hid hk
          have HNX := Lib.hid hnx
          have HKD := Lib.hid hkd
          have HCB := Lib.hid hc2
          have hfd := fld_kind kd (eTok ts k).frm (eTok ts k).to (strOfNums (eTok ts k).text) (strOfNums (eTok ts k).num) (eTok ts k).whole
          have hkl : k ≤ 2000000 := by omega
          have hnl : nx ≤ 2000001 := by omega
          have hkI : (k : Int) ≤ 2000000 := by omega
          clear he hCk hk hnx hkd hc2 hmx hmy hsm
          have fC2 := fC.mono (R' := fun e w5 => ∃ xa xc, e = .returned (.tuple #[.slice xa x.length xc, .int .i64 (to : Nat), .bool psd]) ∧ RsOf (okN wr.heap.size w5) 11 (SimpleAt (RdL (okN wr.heap.size w5) d w5) w5) xa x.length xc x ∧ EyeAt w5 p E ts ps st2 ∧ GB wr w5 p) (fun e w' h => h)
          clear fC
          have fC := fC2
          clear fC2
          by_cases hA : st2.err = 0 ∧ kd ≠ end' ∧ kd ≠ 18
          · rw [if_pos hA] at hM
            have a1 : (st2.err != 0) = false := by simp [hA.1]
            have a2 : (kd == end') = false := beq_eq_false_iff_ne.2 hA.2.1
            have a3 : (kd == 18) = false := beq_eq_false_iff_ne.2 hA.2.2
            by_cases hB : psd = true ∨ (c2 = 0 ∧ k = to)
            · rw [if_pos hB] at hM
              have HM2 := Lib.hid hM
              clear hM hA
              cases psd with
              | true =>
                clear hB
                go_wp2_with (first
                  | (go_at_call 69; (with_reducible refine fC.mono ?_); rintro e w5 ⟨xa, xc, rfl, hx, h5, hg5⟩; have hb6 := (Below.refl w5.heap.size w5).alloc (Nat.le_refl _) (.cells #[.int .i64 cb, .slice xa x.length xc] 114); have hg6 : GB wr (w5.alloc (.cells #[.int .i64 cb, .slice xa x.length xc] 114)) p := hg5.trans (GB.of_below hb6); have HR6 := Lib.hid (HR.out.keep (RC_moves d) (Nat.lt_of_lt_of_le HLT.out (by omega)) hg6); have H6 := Lib.hid (h5.later hb6); have HG6 := Lib.hid (HGr.out.trans hg6); have V5 := HB1.out.kept hg5 (fun hh => by have := Option.some.inj hh; have := HLT.out; omega); have v5 := V5.cell 0 _ rfl; have V6 := Lib.hid (V5.alloc_old (.cells #[.int .i64 cb, .slice xa x.length xc] 114)); have v6 := V6.out.cell 0 _ rfl; have Z6 := Lib.hid ((HB0.out.kept hg5 (fun hh => by have := Option.some.inj hh; have := HLT.out; omega)).alloc_old (.cells #[.int .i64 cb, .slice xa x.length xc] 114)); have E6 := Lib.hid (show Blk (w5.alloc (.cells #[.int .i64 cb, .slice xa x.length xc] 114)) w5.heap.size [.int .i64 cb, .slice xa x.length xc] 114 from Blk.alloc [.int .i64 cb, .slice xa x.length xc] _); have HX6 := Lib.hid (RC_moves d _ (okR (w5.alloc (.cells #[.int .i64 cb, .slice xa x.length xc] 114)) (w.heap.size + 2) (.slice va out.length vc)) _ (w5.alloc (.cells #[.int .i64 cb, .slice xa x.length xc] 114)) _ _ _ (cb, x) (fun b hb => ⟨⟨Nat.le_trans HSZ.out hb.1, Nat.lt_of_lt_of_le hb.2 hb6.size, fun e => by have := (HOB.out b e).2; have := hb.1; omega⟩, hb6.block b hb.2⟩) (show RC d (okN wr.heap.size w5) w5 xa x.length xc (cb, x) from hx)); have HS5 := Lib.hid hg5.size; clear hx h5 hg5 hg6 V5 hb6)
                  | (at_builtin; obtain ⟨ys, hy1, hy2, hy3⟩ := HR6.out; refine wpList_append_row2 rfl _ _ 105 rfl (w.heap.size + 2) 114 iC _ 2 32 Tryz.underlying105 HIC.out.1 HIC.out.2.1 rfl (by decide) HIC.out.2.2.1 HIC.out.2.2.2 (.slice va out.length vc) out.length _ rfl hy2 ⟨w5.heap.size, 0, none⟩ 1 (celC (d := d) (cb, x) xa x.length xc) rfl rfl (celC_one _ _ _ _) (fun j u hu => by rw [show (⟨w5.heap.size, 0, none⟩ : Addr).add j = ⟨w5.heap.size, j, none⟩ from by simp [Addr.add]; intro hj; exact hj.symm]; exact E6.out.cell j u hu) (by unfold maxLen; omega) (by omega) (by have := HSZ.out; have := HS5.out; simp; omega) ?_; intro v8 w8 hown8 hgr8 hv8; obtain ⟨a8, c8, rfl⟩ := own_shape hown8; have hr8 := RowG.snoc (RC_moves d) hy1 hy3 HX6.out hown8 hgr8 hv8; have hn8 : ∀ j, j < w.heap.size + 2 → (Value.slice va out.length vc).ownBlock ≠ some j := (fun j hj hh => by have := (HOB.out _ hh).1; omega); have V8 := V6.out.kept hgr8 (hn8 _ (by omega)); have v8c := V8.cell 0 _ rfl; have v8f := V8.frozen 0; have hs9 := grown_setCell w8 (w.heap.size + 1) 0 (.slice a8 (out.length + 1) c8); have hg9 := gb_own (gb_own HG6.out hgr8 (fun g hg => by have := (HOB.out g hg).1; omega)) hs9 (fun g hg => by have := Option.some.inj hg; omega); have hb9 := (H6.out.blk.kept hgr8 (hn8 _ (by have := HLT.out; omega))).kept hs9 (fun hh => by have := Option.some.inj hh; have := HLT.out; omega); have HR9 := Lib.hid (hr8.keep (RC_moves d) (p := w.heap.size + 1) (by omega) hs9); have V9 := Lib.hid (V8.setCell 0 (.slice a8 (out.length + 1) c8)); have Z9 := Lib.hid ((Z6.out.kept hgr8 (hn8 _ (by omega))).kept hs9 (fun hh => by have := Option.some.inj hh; omega)); have HG9 := Lib.hid hg9; have H9 := Lib.hid (HE.out.grown hg9 hb9); have fB := eblanks_any H9.out to (by omega); rw [HKK.out] at fB; clear hy1 hy2 hy3 hown8 hgr8 hv8 hr8 hn8 V8 hs9 hg9 hb9)
                  | (go_at_call 54; (with_reducible refine fB.mono ?_); rintro e w10 ⟨rfl, hb10⟩; have HX10 := Lib.hid hb10; have fT := tok_any (H9.out.later hb10) k (by omega); rw [tkV_eq, HKD.out] at fT; clear hb10)
                  | (go_at_call 55; (with_reducible refine fT.mono ?_); rintro e w11 ⟨rfl, hb11⟩; have HX11 := Lib.hid (bel_tr HX10.out hb11); have h11 := H9.out.later HX11.out; have e11 := h11.blk.cell 5 _ rfl; have V11 := V9.out.later HX11.out V9.out.lt; have v11 := V11.cell 0 _ rfl; have Z11 := Z9.out.later HX11.out Z9.out.lt; have z11 := Z11.cell 0 _ rfl; have z11f := Z11.frozen 0; have fM := ecomb_any h11 k (by omega); rw [HCB.out] at fM; clear hb11 h11 V11 Z11)
                  | (go_at_call 70; (with_reducible refine fM.mono ?_); rintro e w12 ⟨rfl, hb12⟩; have HX12 := Lib.hid (bel_tr HX11.out hb12); have fF := efail_any (H9.out.later HX12.out) 10 k (by omega); clear hb12)
                  | (go_at_call 56; (with_reducible refine fF.mono ?_); rintro e w13 ⟨rfl, h13, hg13⟩; have H13 := Lib.hid h13; have HG13 := Lib.hid hg13; clear h13 hg13))
                refine ⟨⟨ii, c2, eFail ts st2 10 k, out ++ [(cb, x)], f, .slice a8 (out.length + 1) c8, rfl, rfl, Lib.hid ((HR9.out.keep (RC_moves d) (p := p) (by have := HLT.out; omega) (GB.of_below HX12.out)).keep (RC_moves d) (p := p) (by have := HLT.out; omega) HG13.out), Lib.hid ((Z9.out.later HX12.out Z9.out.lt).kept HG13.out (fun hh => by have := Option.some.inj hh; have := HLT.out; omega)), Lib.hid ((V9.out.later HX12.out V9.out.lt).kept HG13.out (fun hh => by have := Option.some.inj hh; have := HLT.out; omega)), H13, Lib.hid ((HG9.out.trans (GB.of_below HX12.out)).trans HG13.out), Lib.hid ⟨hii, by rw [List.length_append]; have := HF.out; simp; omega⟩, Lib.hid (Nat.le_trans (Nat.le_trans (Nat.succ_le_of_lt V9.out.lt) HX12.out.size) HG13.out.size), HM2⟩, ?_⟩
                rw [((V9.out.later HX12.out V9.out.lt).kept HG13.out (fun hh => by have := Option.some.inj hh; have := HLT.out; omega)).cell 0 _ rfl, HB1.out.cell 0 _ rfl]
                show 1000011 - (out.length + 1) < 1000011 - out.length
                omega
              | false =>
                have hB2 : c2 = 0 ∧ k = to := by simpa using hB
                have b2 : (c2 == 0) = true := beq_iff_eq.2 hB2.1
                have b3 : ((k : Int) == (to : Int)) = true := beq_iff_eq.2 (by have := hB2.2; omega)
                clear hB hB2
                go_wp2_with (first
                  | (go_at_call 69; (with_reducible refine fC.mono ?_); rintro e w5 ⟨xa, xc, rfl, hx, h5, hg5⟩; have hb6 := (Below.refl w5.heap.size w5).alloc (Nat.le_refl _) (.cells #[.int .i64 cb, .slice xa x.length xc] 114); have hg6 : GB wr (w5.alloc (.cells #[.int .i64 cb, .slice xa x.length xc] 114)) p := hg5.trans (GB.of_below hb6); have HR6 := Lib.hid (HR.out.keep (RC_moves d) (Nat.lt_of_lt_of_le HLT.out (by omega)) hg6); have H6 := Lib.hid (h5.later hb6); have HG6 := Lib.hid (HGr.out.trans hg6); have V5 := HB1.out.kept hg5 (fun hh => by have := Option.some.inj hh; have := HLT.out; omega); have v5 := V5.cell 0 _ rfl; have V6 := Lib.hid (V5.alloc_old (.cells #[.int .i64 cb, .slice xa x.length xc] 114)); have v6 := V6.out.cell 0 _ rfl; have Z6 := Lib.hid ((HB0.out.kept hg5 (fun hh => by have := Option.some.inj hh; have := HLT.out; omega)).alloc_old (.cells #[.int .i64 cb, .slice xa x.length xc] 114)); have E6 := Lib.hid (show Blk (w5.alloc (.cells #[.int .i64 cb, .slice xa x.length xc] 114)) w5.heap.size [.int .i64 cb, .slice xa x.length xc] 114 from Blk.alloc [.int .i64 cb, .slice xa x.length xc] _); have HX6 := Lib.hid (RC_moves d _ (okR (w5.alloc (.cells #[.int .i64 cb, .slice xa x.length xc] 114)) (w.heap.size + 2) (.slice va out.length vc)) _ (w5.alloc (.cells #[.int .i64 cb, .slice xa x.length xc] 114)) _ _ _ (cb, x) (fun b hb => ⟨⟨Nat.le_trans HSZ.out hb.1, Nat.lt_of_lt_of_le hb.2 hb6.size, fun e => by have := (HOB.out b e).2; have := hb.1; omega⟩, hb6.block b hb.2⟩) (show RC d (okN wr.heap.size w5) w5 xa x.length xc (cb, x) from hx)); have HS5 := Lib.hid hg5.size; clear hx h5 hg5 hg6 V5 hb6)
                  | (at_builtin; obtain ⟨ys, hy1, hy2, hy3⟩ := HR6.out; refine wpList_append_row2 rfl _ _ 105 rfl (w.heap.size + 2) 114 iC _ 2 32 Tryz.underlying105 HIC.out.1 HIC.out.2.1 rfl (by decide) HIC.out.2.2.1 HIC.out.2.2.2 (.slice va out.length vc) out.length _ rfl hy2 ⟨w5.heap.size, 0, none⟩ 1 (celC (d := d) (cb, x) xa x.length xc) rfl rfl (celC_one _ _ _ _) (fun j u hu => by rw [show (⟨w5.heap.size, 0, none⟩ : Addr).add j = ⟨w5.heap.size, j, none⟩ from by simp [Addr.add]; intro hj; exact hj.symm]; exact E6.out.cell j u hu) (by unfold maxLen; omega) (by omega) (by have := HSZ.out; have := HS5.out; simp; omega) ?_; intro v8 w8 hown8 hgr8 hv8; obtain ⟨a8, c8, rfl⟩ := own_shape hown8; have hr8 := RowG.snoc (RC_moves d) hy1 hy3 HX6.out hown8 hgr8 hv8; have hn8 : ∀ j, j < w.heap.size + 2 → (Value.slice va out.length vc).ownBlock ≠ some j := (fun j hj hh => by have := (HOB.out _ hh).1; omega); have V8 := V6.out.kept hgr8 (hn8 _ (by omega)); have v8c := V8.cell 0 _ rfl; have v8f := V8.frozen 0; have hs9 := grown_setCell w8 (w.heap.size + 1) 0 (.slice a8 (out.length + 1) c8); have hg9 := gb_own (gb_own HG6.out hgr8 (fun g hg => by have := (HOB.out g hg).1; omega)) hs9 (fun g hg => by have := Option.some.inj hg; omega); have hb9 := (H6.out.blk.kept hgr8 (hn8 _ (by have := HLT.out; omega))).kept hs9 (fun hh => by have := Option.some.inj hh; have := HLT.out; omega); have HR9 := Lib.hid (hr8.keep (RC_moves d) (p := w.heap.size + 1) (by omega) hs9); have V9 := Lib.hid (V8.setCell 0 (.slice a8 (out.length + 1) c8)); have Z9 := Lib.hid ((Z6.out.kept hgr8 (hn8 _ (by omega))).kept hs9 (fun hh => by have := Option.some.inj hh; omega)); have HG9 := Lib.hid hg9; have H9 := Lib.hid (HE.out.grown hg9 hb9); have fB := eblanks_any H9.out to (by omega); rw [HKK.out] at fB; clear hy1 hy2 hy3 hown8 hgr8 hv8 hr8 hn8 V8 hs9 hg9 hb9)
                  | (go_at_call 54; (with_reducible refine fB.mono ?_); rintro e w10 ⟨rfl, hb10⟩; have HX10 := Lib.hid hb10; have fT := tok_any (H9.out.later hb10) k (by omega); rw [tkV_eq, HKD.out] at fT; clear hb10)
                  | (go_at_call 55; (with_reducible refine fT.mono ?_); rintro e w11 ⟨rfl, hb11⟩; have HX11 := Lib.hid (bel_tr HX10.out hb11); have h11 := H9.out.later HX11.out; have e11 := h11.blk.cell 5 _ rfl; have V11 := V9.out.later HX11.out V9.out.lt; have v11 := V11.cell 0 _ rfl; have Z11 := Z9.out.later HX11.out Z9.out.lt; have z11 := Z11.cell 0 _ rfl; have z11f := Z11.frozen 0; have fM := ecomb_any h11 k (by omega); rw [HCB.out] at fM; clear hb11 h11 V11 Z11)
                  | (go_at_call 70; (with_reducible refine fM.mono ?_); rintro e w12 ⟨rfl, hb12⟩; have HX12 := Lib.hid (bel_tr HX11.out hb12); have fF := efail_any (H9.out.later HX12.out) 10 k (by omega); clear hb12)
                  | (go_at_call 56; (with_reducible refine fF.mono ?_); rintro e w13 ⟨rfl, h13, hg13⟩; have H13 := Lib.hid h13; have HG13 := Lib.hid hg13; clear h13 hg13))
                refine ⟨⟨ii, c2, eFail ts st2 10 k, out ++ [(cb, x)], f, .slice a8 (out.length + 1) c8, rfl, rfl, Lib.hid ((HR9.out.keep (RC_moves d) (p := p) (by have := HLT.out; omega) (GB.of_below HX12.out)).keep (RC_moves d) (p := p) (by have := HLT.out; omega) HG13.out), Lib.hid ((Z9.out.later HX12.out Z9.out.lt).kept HG13.out (fun hh => by have := Option.some.inj hh; have := HLT.out; omega)), Lib.hid ((V9.out.later HX12.out V9.out.lt).kept HG13.out (fun hh => by have := Option.some.inj hh; have := HLT.out; omega)), H13, Lib.hid ((HG9.out.trans (GB.of_below HX12.out)).trans HG13.out), Lib.hid ⟨hii, by rw [List.length_append]; have := HF.out; simp; omega⟩, Lib.hid (Nat.le_trans (Nat.le_trans (Nat.succ_le_of_lt V9.out.lt) HX12.out.size) HG13.out.size), HM2⟩, ?_⟩
                rw [((V9.out.later HX12.out V9.out.lt).kept HG13.out (fun hh => by have := Option.some.inj hh; have := HLT.out; omega)).cell 0 _ rfl, HB1.out.cell 0 _ rfl]
                show 1000011 - (out.length + 1) < 1000011 - out.length
                omega
            · rw [if_neg hB] at hM
              have b1 : psd = false := by cases psd <;> simp_all
              subst b1
              by_cases hc : c2 = 0
              · rw [if_pos hc] at hM
                have b2 : (c2 == 0) = true := beq_iff_eq.2 hc
                have b3 : ((k : Int) == (to : Int)) = false := beq_eq_false_iff_ne.2 (by intro hq; exact hB (.inr ⟨hc, by omega⟩))
                have HM2 := Lib.hid hM
                clear hM hA hB hc
                go_wp2_with (first
                  | (go_at_call 69; (with_reducible refine fC.mono ?_); rintro e w5 ⟨xa, xc, rfl, hx, h5, hg5⟩; have hb6 := (Below.refl w5.heap.size w5).alloc (Nat.le_refl _) (.cells #[.int .i64 cb, .slice xa x.length xc] 114); have hg6 : GB wr (w5.alloc (.cells #[.int .i64 cb, .slice xa x.length xc] 114)) p := hg5.trans (GB.of_below hb6); have HR6 := Lib.hid (HR.out.keep (RC_moves d) (Nat.lt_of_lt_of_le HLT.out (by omega)) hg6); have H6 := Lib.hid (h5.later hb6); have HG6 := Lib.hid (HGr.out.trans hg6); have V5 := HB1.out.kept hg5 (fun hh => by have := Option.some.inj hh; have := HLT.out; omega); have v5 := V5.cell 0 _ rfl; have V6 := Lib.hid (V5.alloc_old (.cells #[.int .i64 cb, .slice xa x.length xc] 114)); have v6 := V6.out.cell 0 _ rfl; have Z6 := Lib.hid ((HB0.out.kept hg5 (fun hh => by have := Option.some.inj hh; have := HLT.out; omega)).alloc_old (.cells #[.int .i64 cb, .slice xa x.length xc] 114)); have E6 := Lib.hid (show Blk (w5.alloc (.cells #[.int .i64 cb, .slice xa x.length xc] 114)) w5.heap.size [.int .i64 cb, .slice xa x.length xc] 114 from Blk.alloc [.int .i64 cb, .slice xa x.length xc] _); have HX6 := Lib.hid (RC_moves d _ (okR (w5.alloc (.cells #[.int .i64 cb, .slice xa x.length xc] 114)) (w.heap.size + 2) (.slice va out.length vc)) _ (w5.alloc (.cells #[.int .i64 cb, .slice xa x.length xc] 114)) _ _ _ (cb, x) (fun b hb => ⟨⟨Nat.le_trans HSZ.out hb.1, Nat.lt_of_lt_of_le hb.2 hb6.size, fun e => by have := (HOB.out b e).2; have := hb.1; omega⟩, hb6.block b hb.2⟩) (show RC d (okN wr.heap.size w5) w5 xa x.length xc (cb, x) from hx)); have HS5 := Lib.hid hg5.size; clear hx h5 hg5 hg6 V5 hb6)
                  | (at_builtin; obtain ⟨ys, hy1, hy2, hy3⟩ := HR6.out; refine wpList_append_row2 rfl _ _ 105 rfl (w.heap.size + 2) 114 iC _ 2 32 Tryz.underlying105 HIC.out.1 HIC.out.2.1 rfl (by decide) HIC.out.2.2.1 HIC.out.2.2.2 (.slice va out.length vc) out.length _ rfl hy2 ⟨w5.heap.size, 0, none⟩ 1 (celC (d := d) (cb, x) xa x.length xc) rfl rfl (celC_one _ _ _ _) (fun j u hu => by rw [show (⟨w5.heap.size, 0, none⟩ : Addr).add j = ⟨w5.heap.size, j, none⟩ from by simp [Addr.add]; intro hj; exact hj.symm]; exact E6.out.cell j u hu) (by unfold maxLen; omega) (by omega) (by have := HSZ.out; have := HS5.out; simp; omega) ?_; intro v8 w8 hown8 hgr8 hv8; obtain ⟨a8, c8, rfl⟩ := own_shape hown8; have hr8 := RowG.snoc (RC_moves d) hy1 hy3 HX6.out hown8 hgr8 hv8; have hn8 : ∀ j, j < w.heap.size + 2 → (Value.slice va out.length vc).ownBlock ≠ some j := (fun j hj hh => by have := (HOB.out _ hh).1; omega); have V8 := V6.out.kept hgr8 (hn8 _ (by omega)); have v8c := V8.cell 0 _ rfl; have v8f := V8.frozen 0; have hs9 := grown_setCell w8 (w.heap.size + 1) 0 (.slice a8 (out.length + 1) c8); have hg9 := gb_own (gb_own HG6.out hgr8 (fun g hg => by have := (HOB.out g hg).1; omega)) hs9 (fun g hg => by have := Option.some.inj hg; omega); have hb9 := (H6.out.blk.kept hgr8 (hn8 _ (by have := HLT.out; omega))).kept hs9 (fun hh => by have := Option.some.inj hh; have := HLT.out; omega); have HR9 := Lib.hid (hr8.keep (RC_moves d) (p := w.heap.size + 1) (by omega) hs9); have V9 := Lib.hid (V8.setCell 0 (.slice a8 (out.length + 1) c8)); have Z9 := Lib.hid ((Z6.out.kept hgr8 (hn8 _ (by omega))).kept hs9 (fun hh => by have := Option.some.inj hh; omega)); have HG9 := Lib.hid hg9; have H9 := Lib.hid (HE.out.grown hg9 hb9); have fB := eblanks_any H9.out to (by omega); rw [HKK.out] at fB; clear hy1 hy2 hy3 hown8 hgr8 hv8 hr8 hn8 V8 hs9 hg9 hb9)
                  | (go_at_call 54; (with_reducible refine fB.mono ?_); rintro e w10 ⟨rfl, hb10⟩; have HX10 := Lib.hid hb10; have fT := tok_any (H9.out.later hb10) k (by omega); rw [tkV_eq, HKD.out] at fT; clear hb10)
                  | (go_at_call 55; (with_reducible refine fT.mono ?_); rintro e w11 ⟨rfl, hb11⟩; have HX11 := Lib.hid (bel_tr HX10.out hb11); have h11 := H9.out.later HX11.out; have e11 := h11.blk.cell 5 _ rfl; have V11 := V9.out.later HX11.out V9.out.lt; have v11 := V11.cell 0 _ rfl; have Z11 := Z9.out.later HX11.out Z9.out.lt; have z11 := Z11.cell 0 _ rfl; have z11f := Z11.frozen 0; have fM := ecomb_any h11 k (by omega); rw [HCB.out] at fM; clear hb11 h11 V11 Z11)
                  | (go_at_call 70; (with_reducible refine fM.mono ?_); rintro e w12 ⟨rfl, hb12⟩; have HX12 := Lib.hid (bel_tr HX11.out hb12); clear hb12))
                refine ⟨⟨k, 1, st2, out ++ [(cb, x)], f, .slice a8 (out.length + 1) c8, rfl, rfl, Lib.hid (HR9.out.keep (RC_moves d) (p := p) (by have := HLT.out; omega) (GB.of_below HX12.out)), Lib.hid (Z9.out.later HX12.out Z9.out.lt), Lib.hid (V9.out.later HX12.out V9.out.lt), Lib.hid (H9.out.later HX12.out), Lib.hid (HG9.out.trans (GB.of_below HX12.out)), Lib.hid ⟨by omega, by rw [List.length_append]; have := HF.out; simp; omega⟩, Lib.hid (Nat.le_trans (Nat.succ_le_of_lt V9.out.lt) HX12.out.size), HM2⟩, ?_⟩
                rw [(V9.out.later HX12.out V9.out.lt).cell 0 _ rfl, HB1.out.cell 0 _ rfl]
                show 1000011 - (out.length + 1) < 1000011 - out.length
                omega
              · rw [if_neg hc] at hM
                have b2 : (c2 == 0) = false := beq_eq_false_iff_ne.2 hc
                have HM2 := Lib.hid hM
                clear hM hA hB hc
                go_wp2_with (first
                  | (go_at_call 69; (with_reducible refine fC.mono ?_); rintro e w5 ⟨xa, xc, rfl, hx, h5, hg5⟩; have hb6 := (Below.refl w5.heap.size w5).alloc (Nat.le_refl _) (.cells #[.int .i64 cb, .slice xa x.length xc] 114); have hg6 : GB wr (w5.alloc (.cells #[.int .i64 cb, .slice xa x.length xc] 114)) p := hg5.trans (GB.of_below hb6); have HR6 := Lib.hid (HR.out.keep (RC_moves d) (Nat.lt_of_lt_of_le HLT.out (by omega)) hg6); have H6 := Lib.hid (h5.later hb6); have HG6 := Lib.hid (HGr.out.trans hg6); have V5 := HB1.out.kept hg5 (fun hh => by have := Option.some.inj hh; have := HLT.out; omega); have v5 := V5.cell 0 _ rfl; have V6 := Lib.hid (V5.alloc_old (.cells #[.int .i64 cb, .slice xa x.length xc] 114)); have v6 := V6.out.cell 0 _ rfl; have Z6 := Lib.hid ((HB0.out.kept hg5 (fun hh => by have := Option.some.inj hh; have := HLT.out; omega)).alloc_old (.cells #[.int .i64 cb, .slice xa x.length xc] 114)); have E6 := Lib.hid (show Blk (w5.alloc (.cells #[.int .i64 cb, .slice xa x.length xc] 114)) w5.heap.size [.int .i64 cb, .slice xa x.length xc] 114 from Blk.alloc [.int .i64 cb, .slice xa x.length xc] _); have HX6 := Lib.hid (RC_moves d _ (okR (w5.alloc (.cells #[.int .i64 cb, .slice xa x.length xc] 114)) (w.heap.size + 2) (.slice va out.length vc)) _ (w5.alloc (.cells #[.int .i64 cb, .slice xa x.length xc] 114)) _ _ _ (cb, x) (fun b hb => ⟨⟨Nat.le_trans HSZ.out hb.1, Nat.lt_of_lt_of_le hb.2 hb6.size, fun e => by have := (HOB.out b e).2; have := hb.1; omega⟩, hb6.block b hb.2⟩) (show RC d (okN wr.heap.size w5) w5 xa x.length xc (cb, x) from hx)); have HS5 := Lib.hid hg5.size; clear hx h5 hg5 hg6 V5 hb6)
                  | (at_builtin; obtain ⟨ys, hy1, hy2, hy3⟩ := HR6.out; refine wpList_append_row2 rfl _ _ 105 rfl (w.heap.size + 2) 114 iC _ 2 32 Tryz.underlying105 HIC.out.1 HIC.out.2.1 rfl (by decide) HIC.out.2.2.1 HIC.out.2.2.2 (.slice va out.length vc) out.length _ rfl hy2 ⟨w5.heap.size, 0, none⟩ 1 (celC (d := d) (cb, x) xa x.length xc) rfl rfl (celC_one _ _ _ _) (fun j u hu => by rw [show (⟨w5.heap.size, 0, none⟩ : Addr).add j = ⟨w5.heap.size, j, none⟩ from by simp [Addr.add]; intro hj; exact hj.symm]; exact E6.out.cell j u hu) (by unfold maxLen; omega) (by omega) (by have := HSZ.out; have := HS5.out; simp; omega) ?_; intro v8 w8 hown8 hgr8 hv8; obtain ⟨a8, c8, rfl⟩ := own_shape hown8; have hr8 := RowG.snoc (RC_moves d) hy1 hy3 HX6.out hown8 hgr8 hv8; have hn8 : ∀ j, j < w.heap.size + 2 → (Value.slice va out.length vc).ownBlock ≠ some j := (fun j hj hh => by have := (HOB.out _ hh).1; omega); have V8 := V6.out.kept hgr8 (hn8 _ (by omega)); have v8c := V8.cell 0 _ rfl; have v8f := V8.frozen 0; have hs9 := grown_setCell w8 (w.heap.size + 1) 0 (.slice a8 (out.length + 1) c8); have hg9 := gb_own (gb_own HG6.out hgr8 (fun g hg => by have := (HOB.out g hg).1; omega)) hs9 (fun g hg => by have := Option.some.inj hg; omega); have hb9 := (H6.out.blk.kept hgr8 (hn8 _ (by have := HLT.out; omega))).kept hs9 (fun hh => by have := Option.some.inj hh; have := HLT.out; omega); have HR9 := Lib.hid (hr8.keep (RC_moves d) (p := w.heap.size + 1) (by omega) hs9); have V9 := Lib.hid (V8.setCell 0 (.slice a8 (out.length + 1) c8)); have Z9 := Lib.hid ((Z6.out.kept hgr8 (hn8 _ (by omega))).kept hs9 (fun hh => by have := Option.some.inj hh; omega)); have HG9 := Lib.hid hg9; have H9 := Lib.hid (HE.out.grown hg9 hb9); have fB := eblanks_any H9.out to (by omega); rw [HKK.out] at fB; clear hy1 hy2 hy3 hown8 hgr8 hv8 hr8 hn8 V8 hs9 hg9 hb9)
                  | (go_at_call 54; (with_reducible refine fB.mono ?_); rintro e w10 ⟨rfl, hb10⟩; have HX10 := Lib.hid hb10; have fT := tok_any (H9.out.later hb10) k (by omega); rw [tkV_eq, HKD.out] at fT; clear hb10)
                  | (go_at_call 55; (with_reducible refine fT.mono ?_); rintro e w11 ⟨rfl, hb11⟩; have HX11 := Lib.hid (bel_tr HX10.out hb11); have h11 := H9.out.later HX11.out; have e11 := h11.blk.cell 5 _ rfl; have V11 := V9.out.later HX11.out V9.out.lt; have v11 := V11.cell 0 _ rfl; have Z11 := Z9.out.later HX11.out Z9.out.lt; have z11 := Z11.cell 0 _ rfl; have z11f := Z11.frozen 0; have fM := ecomb_any h11 k (by omega); rw [HCB.out] at fM; clear hb11 h11 V11 Z11)
                  | (go_at_call 70; (with_reducible refine fM.mono ?_); rintro e w12 ⟨rfl, hb12⟩; have HX12 := Lib.hid (bel_tr HX11.out hb12); have fN := eblanks_any (H9.out.later HX12.out) (k + 1) (by omega); rw [Int.natCast_succ, HNX.out] at fN; clear hb12)
                  | (go_at_call 54; (with_reducible refine fN.mono ?_); rintro e w13 ⟨rfl, hb13⟩; have HX13 := Lib.hid (bel_tr HX12.out hb13); clear hb13))
                refine ⟨⟨nx, c2, st2, out ++ [(cb, x)], f, .slice a8 (out.length + 1) c8, rfl, rfl, Lib.hid (HR9.out.keep (RC_moves d) (p := p) (by have := HLT.out; omega) (GB.of_below HX13.out)), Lib.hid (Z9.out.later HX13.out Z9.out.lt), Lib.hid (V9.out.later HX13.out V9.out.lt), Lib.hid (H9.out.later HX13.out), Lib.hid (HG9.out.trans (GB.of_below HX13.out)), Lib.hid ⟨by omega, by rw [List.length_append]; have := HF.out; simp; omega⟩, Lib.hid (Nat.le_trans (Nat.succ_le_of_lt V9.out.lt) HX13.out.size), HM2⟩, ?_⟩
                rw [(V9.out.later HX13.out V9.out.lt).cell 0 _ rfl, HB1.out.cell 0 _ rfl]
                show 1000011 - (out.length + 1) < 1000011 - out.length
                omega
          · rw [if_neg hA] at hM
            obtain rfl := Option.some.inj hM
            clear hM
            by_cases h1 : st2.err = 0
            · have a1 : (st2.err != 0) = false := by simp [h1]
              by_cases h2 : kd = end'
              · have a2 : (kd == end') = true := beq_iff_eq.2 h2
                clear hA h1 h2
                go_wp2_with (first
                  | (go_at_call 69; (with_reducible refine fC.mono ?_); rintro e w5 ⟨xa, xc, rfl, hx, h5, hg5⟩; have hb6 := (Below.refl w5.heap.size w5).alloc (Nat.le_refl _) (.cells #[.int .i64 cb, .slice xa x.length xc] 114); have hg6 : GB wr (w5.alloc (.cells #[.int .i64 cb, .slice xa x.length xc] 114)) p := hg5.trans (GB.of_below hb6); have HR6 := Lib.hid (HR.out.keep (RC_moves d) (Nat.lt_of_lt_of_le HLT.out (by omega)) hg6); have H6 := Lib.hid (h5.later hb6); have HG6 := Lib.hid (HGr.out.trans hg6); have V5 := HB1.out.kept hg5 (fun hh => by have := Option.some.inj hh; have := HLT.out; omega); have v5 := V5.cell 0 _ rfl; have V6 := Lib.hid (V5.alloc_old (.cells #[.int .i64 cb, .slice xa x.length xc] 114)); have v6 := V6.out.cell 0 _ rfl; have Z6 := Lib.hid ((HB0.out.kept hg5 (fun hh => by have := Option.some.inj hh; have := HLT.out; omega)).alloc_old (.cells #[.int .i64 cb, .slice xa x.length xc] 114)); have E6 := Lib.hid (show Blk (w5.alloc (.cells #[.int .i64 cb, .slice xa x.length xc] 114)) w5.heap.size [.int .i64 cb, .slice xa x.length xc] 114 from Blk.alloc [.int .i64 cb, .slice xa x.length xc] _); have HX6 := Lib.hid (RC_moves d _ (okR (w5.alloc (.cells #[.int .i64 cb, .slice xa x.length xc] 114)) (w.heap.size + 2) (.slice va out.length vc)) _ (w5.alloc (.cells #[.int .i64 cb, .slice xa x.length xc] 114)) _ _ _ (cb, x) (fun b hb => ⟨⟨Nat.le_trans HSZ.out hb.1, Nat.lt_of_lt_of_le hb.2 hb6.size, fun e => by have := (HOB.out b e).2; have := hb.1; omega⟩, hb6.block b hb.2⟩) (show RC d (okN wr.heap.size w5) w5 xa x.length xc (cb, x) from hx)); have HS5 := Lib.hid hg5.size; clear hx h5 hg5 hg6 V5 hb6)
                  | (at_builtin; obtain ⟨ys, hy1, hy2, hy3⟩ := HR6.out; refine wpList_append_row2 rfl _ _ 105 rfl (w.heap.size + 2) 114 iC _ 2 32 Tryz.underlying105 HIC.out.1 HIC.out.2.1 rfl (by decide) HIC.out.2.2.1 HIC.out.2.2.2 (.slice va out.length vc) out.length _ rfl hy2 ⟨w5.heap.size, 0, none⟩ 1 (celC (d := d) (cb, x) xa x.length xc) rfl rfl (celC_one _ _ _ _) (fun j u hu => by rw [show (⟨w5.heap.size, 0, none⟩ : Addr).add j = ⟨w5.heap.size, j, none⟩ from by simp [Addr.add]; intro hj; exact hj.symm]; exact E6.out.cell j u hu) (by unfold maxLen; omega) (by omega) (by have := HSZ.out; have := HS5.out; simp; omega) ?_; intro v8 w8 hown8 hgr8 hv8; obtain ⟨a8, c8, rfl⟩ := own_shape hown8; have hr8 := RowG.snoc (RC_moves d) hy1 hy3 HX6.out hown8 hgr8 hv8; have hn8 : ∀ j, j < w.heap.size + 2 → (Value.slice va out.length vc).ownBlock ≠ some j := (fun j hj hh => by have := (HOB.out _ hh).1; omega); have V8 := V6.out.kept hgr8 (hn8 _ (by omega)); have v8c := V8.cell 0 _ rfl; have v8f := V8.frozen 0; have hs9 := grown_setCell w8 (w.heap.size + 1) 0 (.slice a8 (out.length + 1) c8); have hg9 := gb_own (gb_own HG6.out hgr8 (fun g hg => by have := (HOB.out g hg).1; omega)) hs9 (fun g hg => by have := Option.some.inj hg; omega); have hb9 := (H6.out.blk.kept hgr8 (hn8 _ (by have := HLT.out; omega))).kept hs9 (fun hh => by have := Option.some.inj hh; have := HLT.out; omega); have HR9 := Lib.hid (hr8.keep (RC_moves d) (p := w.heap.size + 1) (by omega) hs9); have V9 := Lib.hid (V8.setCell 0 (.slice a8 (out.length + 1) c8)); have Z9 := Lib.hid ((Z6.out.kept hgr8 (hn8 _ (by omega))).kept hs9 (fun hh => by have := Option.some.inj hh; omega)); have HG9 := Lib.hid hg9; have H9 := Lib.hid (HE.out.grown hg9 hb9); have fB := eblanks_any H9.out to (by omega); rw [HKK.out] at fB; clear hy1 hy2 hy3 hown8 hgr8 hv8 hr8 hn8 V8 hs9 hg9 hb9)
                  | (go_at_call 54; (with_reducible refine fB.mono ?_); rintro e w10 ⟨rfl, hb10⟩; have HX10 := Lib.hid hb10; have fT := tok_any (H9.out.later hb10) k (by omega); rw [tkV_eq, HKD.out] at fT; clear hb10)
                  | (go_at_call 55; (with_reducible refine fT.mono ?_); rintro e w11 ⟨rfl, hb11⟩; have HX11 := Lib.hid (bel_tr HX10.out hb11); have h11 := H9.out.later HX11.out; have e11 := h11.blk.cell 5 _ rfl; have V11 := V9.out.later HX11.out V9.out.lt; have v11 := V11.cell 0 _ rfl; have Z11 := Z9.out.later HX11.out Z9.out.lt; have z11 := Z11.cell 0 _ rfl; have z11f := Z11.frozen 0; have fM := ecomb_any h11 k (by omega); rw [HCB.out] at fM; clear hb11 h11 V11 Z11))
                exact EXP_end (by simp [results, Tryz.results53, go_sem, ((Z9.out.later HX11.out Z9.out.lt).setCell 0 (.slice a8 (out.length + 1) c8)).cell 0 _ rfl]) (HR9.out.keep (RC_moves d) (p := p) (by have := HLT.out; omega) (GB.of_below HX11.out)) (by rw [List.length_append]; simp; omega) (HG9.out.trans (GB.of_below HX11.out)) (H9.out.later HX11.out) HE.out rfl
              · have a2 : (kd == end') = false := beq_eq_false_iff_ne.2 h2
                have h3 : kd = 18 := by
                  by_cases hq : kd = 18
                  · exact hq
                  · exact absurd ⟨h1, h2, hq⟩ hA
                have a3 : (kd == 18) = true := beq_iff_eq.2 h3
                clear hA h1 h2 h3
                go_wp2_with (first
                  | (go_at_call 69; (with_reducible refine fC.mono ?_); rintro e w5 ⟨xa, xc, rfl, hx, h5, hg5⟩; have hb6 := (Below.refl w5.heap.size w5).alloc (Nat.le_refl _) (.cells #[.int .i64 cb, .slice xa x.length xc] 114); have hg6 : GB wr (w5.alloc (.cells #[.int .i64 cb, .slice xa x.length xc] 114)) p := hg5.trans (GB.of_below hb6); have HR6 := Lib.hid (HR.out.keep (RC_moves d) (Nat.lt_of_lt_of_le HLT.out (by omega)) hg6); have H6 := Lib.hid (h5.later hb6); have HG6 := Lib.hid (HGr.out.trans hg6); have V5 := HB1.out.kept hg5 (fun hh => by have := Option.some.inj hh; have := HLT.out; omega); have v5 := V5.cell 0 _ rfl; have V6 := Lib.hid (V5.alloc_old (.cells #[.int .i64 cb, .slice xa x.length xc] 114)); have v6 := V6.out.cell 0 _ rfl; have Z6 := Lib.hid ((HB0.out.kept hg5 (fun hh => by have := Option.some.inj hh; have := HLT.out; omega)).alloc_old (.cells #[.int .i64 cb, .slice xa x.length xc] 114)); have E6 := Lib.hid (show Blk (w5.alloc (.cells #[.int .i64 cb, .slice xa x.length xc] 114)) w5.heap.size [.int .i64 cb, .slice xa x.length xc] 114 from Blk.alloc [.int .i64 cb, .slice xa x.length xc] _); have HX6 := Lib.hid (RC_moves d _ (okR (w5.alloc (.cells #[.int .i64 cb, .slice xa x.length xc] 114)) (w.heap.size + 2) (.slice va out.length vc)) _ (w5.alloc (.cells #[.int .i64 cb, .slice xa x.length xc] 114)) _ _ _ (cb, x) (fun b hb => ⟨⟨Nat.le_trans HSZ.out hb.1, Nat.lt_of_lt_of_le hb.2 hb6.size, fun e => by have := (HOB.out b e).2; have := hb.1; omega⟩, hb6.block b hb.2⟩) (show RC d (okN wr.heap.size w5) w5 xa x.length xc (cb, x) from hx)); have HS5 := Lib.hid hg5.size; clear hx h5 hg5 hg6 V5 hb6)
                  | (at_builtin; obtain ⟨ys, hy1, hy2, hy3⟩ := HR6.out; refine wpList_append_row2 rfl _ _ 105 rfl (w.heap.size + 2) 114 iC _ 2 32 Tryz.underlying105 HIC.out.1 HIC.out.2.1 rfl (by decide) HIC.out.2.2.1 HIC.out.2.2.2 (.slice va out.length vc) out.length _ rfl hy2 ⟨w5.heap.size, 0, none⟩ 1 (celC (d := d) (cb, x) xa x.length xc) rfl rfl (celC_one _ _ _ _) (fun j u hu => by rw [show (⟨w5.heap.size, 0, none⟩ : Addr).add j = ⟨w5.heap.size, j, none⟩ from by simp [Addr.add]; intro hj; exact hj.symm]; exact E6.out.cell j u hu) (by unfold maxLen; omega) (by omega) (by have := HSZ.out; have := HS5.out; simp; omega) ?_; intro v8 w8 hown8 hgr8 hv8; obtain ⟨a8, c8, rfl⟩ := own_shape hown8; have hr8 := RowG.snoc (RC_moves d) hy1 hy3 HX6.out hown8 hgr8 hv8; have hn8 : ∀ j, j < w.heap.size + 2 → (Value.slice va out.length vc).ownBlock ≠ some j := (fun j hj hh => by have := (HOB.out _ hh).1; omega); have V8 := V6.out.kept hgr8 (hn8 _ (by omega)); have v8c := V8.cell 0 _ rfl; have v8f := V8.frozen 0; have hs9 := grown_setCell w8 (w.heap.size + 1) 0 (.slice a8 (out.length + 1) c8); have hg9 := gb_own (gb_own HG6.out hgr8 (fun g hg => by have := (HOB.out g hg).1; omega)) hs9 (fun g hg => by have := Option.some.inj hg; omega); have hb9 := (H6.out.blk.kept hgr8 (hn8 _ (by have := HLT.out; omega))).kept hs9 (fun hh => by have := Option.some.inj hh; have := HLT.out; omega); have HR9 := Lib.hid (hr8.keep (RC_moves d) (p := w.heap.size + 1) (by omega) hs9); have V9 := Lib.hid (V8.setCell 0 (.slice a8 (out.length + 1) c8)); have Z9 := Lib.hid ((Z6.out.kept hgr8 (hn8 _ (by omega))).kept hs9 (fun hh => by have := Option.some.inj hh; omega)); have HG9 := Lib.hid hg9; have H9 := Lib.hid (HE.out.grown hg9 hb9); have fB := eblanks_any H9.out to (by omega); rw [HKK.out] at fB; clear hy1 hy2 hy3 hown8 hgr8 hv8 hr8 hn8 V8 hs9 hg9 hb9)
                  | (go_at_call 54; (with_reducible refine fB.mono ?_); rintro e w10 ⟨rfl, hb10⟩; have HX10 := Lib.hid hb10; have fT := tok_any (H9.out.later hb10) k (by omega); rw [tkV_eq, HKD.out] at fT; clear hb10)
                  | (go_at_call 55; (with_reducible refine fT.mono ?_); rintro e w11 ⟨rfl, hb11⟩; have HX11 := Lib.hid (bel_tr HX10.out hb11); have h11 := H9.out.later HX11.out; have e11 := h11.blk.cell 5 _ rfl; have V11 := V9.out.later HX11.out V9.out.lt; have v11 := V11.cell 0 _ rfl; have Z11 := Z9.out.later HX11.out Z9.out.lt; have z11 := Z11.cell 0 _ rfl; have z11f := Z11.frozen 0; have fM := ecomb_any h11 k (by omega); rw [HCB.out] at fM; clear hb11 h11 V11 Z11))
                exact EXP_end (by simp [results, Tryz.results53, go_sem, ((Z9.out.later HX11.out Z9.out.lt).setCell 0 (.slice a8 (out.length + 1) c8)).cell 0 _ rfl]) (HR9.out.keep (RC_moves d) (p := p) (by have := HLT.out; omega) (GB.of_below HX11.out)) (by rw [List.length_append]; simp; omega) (HG9.out.trans (GB.of_below HX11.out)) (H9.out.later HX11.out) HE.out rfl
            · have a1 : (st2.err != 0) = true := bne_iff_ne.2 h1
              clear hA h1
              go_wp2_with (first
                | (go_at_call 69; (with_reducible refine fC.mono ?_); rintro e w5 ⟨xa, xc, rfl, hx, h5, hg5⟩; have hb6 := (Below.refl w5.heap.size w5).alloc (Nat.le_refl _) (.cells #[.int .i64 cb, .slice xa x.length xc] 114); have hg6 : GB wr (w5.alloc (.cells #[.int .i64 cb, .slice xa x.length xc] 114)) p := hg5.trans (GB.of_below hb6); have HR6 := Lib.hid (HR.out.keep (RC_moves d) (Nat.lt_of_lt_of_le HLT.out (by omega)) hg6); have H6 := Lib.hid (h5.later hb6); have HG6 := Lib.hid (HGr.out.trans hg6); have V5 := HB1.out.kept hg5 (fun hh => by have := Option.some.inj hh; have := HLT.out; omega); have v5 := V5.cell 0 _ rfl; have V6 := Lib.hid (V5.alloc_old (.cells #[.int .i64 cb, .slice xa x.length xc] 114)); have v6 := V6.out.cell 0 _ rfl; have Z6 := Lib.hid ((HB0.out.kept hg5 (fun hh => by have := Option.some.inj hh; have := HLT.out; omega)).alloc_old (.cells #[.int .i64 cb, .slice xa x.length xc] 114)); have E6 := Lib.hid (show Blk (w5.alloc (.cells #[.int .i64 cb, .slice xa x.length xc] 114)) w5.heap.size [.int .i64 cb, .slice xa x.length xc] 114 from Blk.alloc [.int .i64 cb, .slice xa x.length xc] _); have HX6 := Lib.hid (RC_moves d _ (okR (w5.alloc (.cells #[.int .i64 cb, .slice xa x.length xc] 114)) (w.heap.size + 2) (.slice va out.length vc)) _ (w5.alloc (.cells #[.int .i64 cb, .slice xa x.length xc] 114)) _ _ _ (cb, x) (fun b hb => ⟨⟨Nat.le_trans HSZ.out hb.1, Nat.lt_of_lt_of_le hb.2 hb6.size, fun e => by have := (HOB.out b e).2; have := hb.1; omega⟩, hb6.block b hb.2⟩) (show RC d (okN wr.heap.size w5) w5 xa x.length xc (cb, x) from hx)); have HS5 := Lib.hid hg5.size; clear hx h5 hg5 hg6 V5 hb6)
                | (at_builtin; obtain ⟨ys, hy1, hy2, hy3⟩ := HR6.out; refine wpList_append_row2 rfl _ _ 105 rfl (w.heap.size + 2) 114 iC _ 2 32 Tryz.underlying105 HIC.out.1 HIC.out.2.1 rfl (by decide) HIC.out.2.2.1 HIC.out.2.2.2 (.slice va out.length vc) out.length _ rfl hy2 ⟨w5.heap.size, 0, none⟩ 1 (celC (d := d) (cb, x) xa x.length xc) rfl rfl (celC_one _ _ _ _) (fun j u hu => by rw [show (⟨w5.heap.size, 0, none⟩ : Addr).add j = ⟨w5.heap.size, j, none⟩ from by simp [Addr.add]; intro hj; exact hj.symm]; exact E6.out.cell j u hu) (by unfold maxLen; omega) (by omega) (by have := HSZ.out; have := HS5.out; simp; omega) ?_; intro v8 w8 hown8 hgr8 hv8; obtain ⟨a8, c8, rfl⟩ := own_shape hown8; have hr8 := RowG.snoc (RC_moves d) hy1 hy3 HX6.out hown8 hgr8 hv8; have hn8 : ∀ j, j < w.heap.size + 2 → (Value.slice va out.length vc).ownBlock ≠ some j := (fun j hj hh => by have := (HOB.out _ hh).1; omega); have V8 := V6.out.kept hgr8 (hn8 _ (by omega)); have v8c := V8.cell 0 _ rfl; have v8f := V8.frozen 0; have hs9 := grown_setCell w8 (w.heap.size + 1) 0 (.slice a8 (out.length + 1) c8); have hg9 := gb_own (gb_own HG6.out hgr8 (fun g hg => by have := (HOB.out g hg).1; omega)) hs9 (fun g hg => by have := Option.some.inj hg; omega); have hb9 := (H6.out.blk.kept hgr8 (hn8 _ (by have := HLT.out; omega))).kept hs9 (fun hh => by have := Option.some.inj hh; have := HLT.out; omega); have HR9 := Lib.hid (hr8.keep (RC_moves d) (p := w.heap.size + 1) (by omega) hs9); have V9 := Lib.hid (V8.setCell 0 (.slice a8 (out.length + 1) c8)); have Z9 := Lib.hid ((Z6.out.kept hgr8 (hn8 _ (by omega))).kept hs9 (fun hh => by have := Option.some.inj hh; omega)); have HG9 := Lib.hid hg9; have H9 := Lib.hid (HE.out.grown hg9 hb9); have fB := eblanks_any H9.out to (by omega); rw [HKK.out] at fB; clear hy1 hy2 hy3 hown8 hgr8 hv8 hr8 hn8 V8 hs9 hg9 hb9)
                | (go_at_call 54; (with_reducible refine fB.mono ?_); rintro e w10 ⟨rfl, hb10⟩; have HX10 := Lib.hid hb10; have fT := tok_any (H9.out.later hb10) k (by omega); rw [tkV_eq, HKD.out] at fT; clear hb10)
                | (go_at_call 55; (with_reducible refine fT.mono ?_); rintro e w11 ⟨rfl, hb11⟩; have HX11 := Lib.hid (bel_tr HX10.out hb11); have h11 := H9.out.later HX11.out; have e11 := h11.blk.cell 5 _ rfl; have V11 := V9.out.later HX11.out V9.out.lt; have v11 := V11.cell 0 _ rfl; have Z11 := Z9.out.later HX11.out Z9.out.lt; have z11 := Z11.cell 0 _ rfl; have z11f := Z11.frozen 0; have fM := ecomb_any h11 k (by omega); rw [HCB.out] at fM; clear hb11 h11 V11 Z11))
              exact EXP_end (by simp [results, Tryz.results53, go_sem, ((Z9.out.later HX11.out Z9.out.lt).setCell 0 (.slice a8 (out.length + 1) c8)).cell 0 _ rfl]) (HR9.out.keep (RC_moves d) (p := p) (by have := HLT.out; omega) (GB.of_below HX11.out)) (by rw [List.length_append]; simp; omega) (HG9.out.trans (GB.of_below HX11.out)) (H9.out.later HX11.out) HE.out rfl
        · rw [if_neg hto] at hM; cases hM
    · rw [if_neg he] at hM
      have q : (st'.err == 0) = false := beq_eq_false_iff_ne.2 he
      obtain rfl := Option.some.inj hM
      have z0 := HB0.out.cell 0 _ rfl
      have z0f := HB0.out.frozen 0
      have v0 := HB1.out.cell 0 _ rfl
      clear he hM
      go_wp2
      exact EXP_end (by simp [results, Tryz.results53, go_sem, (HB0.out.setCell 0 (.slice va out.length vc)).cell 0 _ rfl]) HR.out (by omega) HGr.out HEr.out HE.out rfl
end
end Go.Proofs.YtcfhggdiccilaaaGreat
