/- Texts of mine in one: Eyc Eyd Eye Eyf Eyg. -/
import Derived.Test.YtcfhggdiccilaaaGreatQ21
import Derived.Test.YtcfhggdiccilaaaGreatQ14
import Derived.Test.YtcfhggdiccilaaaGreatQ08
import Derived.Test.YtcfhggdiccilaaaGreatQ28
namespace Go.Proofs.YtcfhggdiccilaaaGreat
section
open Go.RowKit
set_option linter.unusedVariables false
set_option linter.unusedSimpArgs false
def eSimpleP (d : Nat) (ts : List Tk) (i : Nat) (st : Es) (ahead : List (Sm d)) : Option (Sm d × Nat × Es) :=
  if (eTok ts i).kind = 4 ∧ (eTok ts i).whole = true then
    let x : Flat := ⟨4, 0, ⟨#[]⟩, strOfNums (eTok ts i).text, 0, ⟨#[]⟩, false, 0, 0, 0⟩
    if FlatOk x then some ((x, emptyL d), i + 1, st) else none
  else if eSign ts i ⟨#[46]⟩ = true then
    let x : Flat := ⟨3, 0, ⟨#[]⟩, strOfNums (eTok ts (i + 1)).text, 0, ⟨#[]⟩, false, 0, 0, 0⟩
    if FlatOk x then some ((x, emptyL d), i + 2, if eName ts (i + 1) then st else eFail ts st 10 (i + 1)) else none
  else if (eTok ts i).kind = 19 ∨ (eTok ts i).kind = 16 then none
  else some ((flatZ, emptyL d), i, st)
theorem EP.esp {d p : Nat} {E : Ey} {ts : List Tk} {ps : List ByteArray} {x : Flat} {k : Nat} {st' : Es} {w : World} (hx : FlatOk x) : ∀ e w', EP p E ts ps (x, k, st') w e w' → ESP (d := d) p E ts ps ((x, emptyL d), k, st') w e w' := by
  rintro e w' ⟨h1, h2, h3⟩
  exact ⟨none, 0, 0, h1, ⟨hx, emptyL_rd d⟩, h2, h3⟩
theorem simpleC_plain (d p : Nat) (E : Ey) (ts : List Tk) (ps : List ByteArray) (outer : Bool) (deep : Int) : SimpleC d p E ts ps outer deep (eSimpleP d ts) := by
  intro w st i ahead va vc h hi hr r hS
  unfold eSimpleP at hS
  by_cases h1 : (eTok ts i).kind = 4 ∧ (eTok ts i).whole = true
  · rw [if_pos h1] at hS
    dsimp only at hS
    split at hS
    · rename_i hok
      obtain rfl := Option.some.inj hS
      exact (esimple_id h i hi outer deep va _ vc h1.1 h1.2).mono (EP.esp hok)
    · cases hS
  · rw [if_neg h1] at hS
    by_cases h2 : eSign ts i ⟨#[46]⟩ = true
    · rw [if_pos h2] at hS
      dsimp only at hS
      split at hS
      · rename_i hok
        obtain rfl := Option.some.inj hS
        exact (esimple_dot h i hi outer deep va _ vc h2).mono (EP.esp hok)
      · cases hS
    · rw [if_neg h2] at hS
      by_cases h3 : (eTok ts i).kind = 19 ∨ (eTok ts i).kind = 16
      · rw [if_pos h3] at hS; cases hS
      · rw [if_neg h3] at hS
        obtain rfl := Option.some.inj hS
        exact (esimple_none h i hi outer deep va _ vc h1 (by simpa using h2) (fun e => h3 (.inl e)) (fun e => h3 (.inr e))).mono (EP.esp ⟨Nat.zero_le _, Nat.zero_le _, Nat.zero_le _⟩)
end

section
open Go.RowKit
set_option linter.unusedVariables false
set_option linter.unusedSimpArgs false
theorem TryzinfoCmx : (Tryz.prog.info? 107).map (fun i => (i.zero, i.size, i.bytes)) = some (some (.agg #[.slice none 0 0]), 1, 24) := by kernel_rfl
def CplxC (d p : Nat) (E : Ey) (ts : List Tk) (ps : List ByteArray) (end' deep : Int) (C : Nat → Es → Option (Xm d × Nat × Es)) : Prop :=
  ∀ (w : World) (st : Es) (i : Nat), EyeAt w p E ts ps st → i ≤ 2900000 → ∀ r, C i st = some r → Calls Tryz.prog 53 #[.pointer (some ⟨p, 0, none⟩), .int .i64 i, .int .i64 end', .int .i64 deep] w (EXP p E ts ps r w)
def ELP {d : Nat} (p : Nat) (E : Ey) (ts : List Tk) (ps : List ByteArray) (r : List (Xm d) × Nat × Es) (w : World) (e : Ending) (w' : World) : Prop :=
  ∃ a c, e = .returned (.tuple #[.slice a r.1.length c, .int .i64 r.2.1]) ∧ RdL (okN w.heap.size w') (d + 1) w' a r.1.length c r.1 ∧ EyeAt w' p E ts ps r.2.2 ∧ GB w w' p
theorem ELP_end {d p : Nat} {E : Ey} {ts : List Tk} {ps : List ByteArray} {w wL : World} {F : Func} {a : Act} {va : Option Addr} {n vc k : Nat} {out : List (Xm d)} {st' : Es}
    (hr : (results F a.tmps).run Tryz.prog wL = .ok (.tuple #[.slice va n vc, .int .i64 (k : Nat)]) wL) (hn : n = out.length)
    (hR : RowG 107 1 celX (RX d) wL w.heap.size (.slice va n vc) out) (hl : out.length ≤ 100000000) (hg : GB w wL p) (hE : EyeAt wL p E ts ps st') (hd : a.defers = []) :
    bodyPost Tryz.prog F (ELP p E ts ps (out, k, st') w) Exit.ret a wL := by
  subst hn
  obtain ⟨a', c', hv, hrd⟩ := hR.rd (RX_moves d) celX_len hl
  cases hv
  refine bodyPost_ret hr hd ⟨_, _, rfl, ?_, hE, hg⟩
  show RsOf (okN w.heap.size wL) 1 (ComplexAt (okN w.heap.size wL) (RdL (okN w.heap.size wL) d wL) wL) va out.length vc out
  exact RsOf.imp hrd (fun b hb => hb) (fun b o x hb hx => RX.complex hx)
set_option maxRecDepth 100000 in
set_option maxHeartbeats 8000000 in
theorem elist_any {d p : Nat} {E : Ey} {ts : List Tk} {ps : List ByteArray} {deep end' : Int} {C : Nat → Es → Option (Xm d × Nat × Es)} (hC : CplxC d p E ts ps end' deep C) {w : World} {st : Es} (h : EyeAt w p E ts ps st) (i : Nat) (hi2 : i ≤ 2000010) (RR : List (Xm d) × Nat × Es) (hRR : listGo C ts end' (ts.length + 10) i st [] = some RR) :
    Calls Tryz.prog 37 #[.pointer (some ⟨p, 0, none⟩), .int .i64 i, .int .i64 end', .int .i64 deep] w (ELP p E ts ps RR w) := by
  obtain ⟨iX, hiX, hzX⟩ := Option.map_eq_some_iff.1 TryzinfoCmx
  simp only [Prod.mk.injEq] at hzX
  have HIX := Lib.hid (And.intro hiX hzX)
  clear hiX hzX
  have HE := Lib.hid h
  have HCC := Lib.hid hC
  have HI := Lib.hid hi2
  have HSM := Lib.hid h.small
  have HLT := Lib.hid h.blk.lt
  have HRR := Lib.hid hRR
  have HBA := Lib.hid ((Below.refl w.heap.size w).alloc (Nat.le_refl _) (.cells #[] 107))
  have HV0 : (w.alloc (.cells #[] 107)).ownsRow w.heap.size 107 1 (.slice (some ⟨w.heap.size, 0, none⟩) 0 0) 0 [] := owns_emptyE 1 (show Blk (w.alloc (.cells #[] 107)) w.heap.size [] 107 from Blk.alloc [] _) (Nat.le_refl _)
  have HV0 := Lib.hid HV0
  clear h hC hi2 hRR
  go_enter Tryz.func37, Tryz.ntmps37
  go_wp2_with fail
  go_loopw [1, 10] (fun iv v wr => ∃ (ii : Nat) (st' : Es) (out : List (Xm d)) (f : Nat), iv = .int .i64 ii ∧ Hid (RowG 107 1 celX (RX d) wr w.heap.size v out) ∧ Hid (EyeAt wr p E ts ps st') ∧ Hid (GB w wr p) ∧ Hid (ii ≤ 2000010 ∧ f + out.length ≤ 1000011) ∧ Hid (w.heap.size ≤ wr.heap.size) ∧ Hid (listGo C ts end' f ii st' out = some RR)) (fun _ v _ => 1000011 - lenV v)
  case atStart => exact ⟨i, st, [], ts.length + 10, rfl, Lib.hid (RowG.nil HV0.out), Lib.hid (HE.out.later HBA.out), Lib.hid (GB.of_below HBA.out), Lib.hid ⟨HI.out, by have := HSM.out; show _ + 0 ≤ _; omega⟩, Lib.hid (by simp), HRR⟩
  case round =>
    obtain ⟨ii, st', out, f, rfl, HR, HEr, HGr, HKr, HSZ, HM⟩ := hrel
    have hii := HKr.out.1
    have c5 := HEr.out.blk.cell 5 _ rfl
    obtain ⟨va, vc, hvv, hRd⟩ := HR.out.rd (RX_moves d) celX_len (by have := HKr.out.2; omega)
    subst hvv
    obtain ⟨f, rfl⟩ : ∃ g, f = g + 1 := by
      cases f with
      | zero => exact absurd HM.out (by unfold listGo; simp)
      | succ g => exact ⟨g, rfl⟩
    have hM := HM.out
    unfold listGo at hM
    have HRd := Lib.hid hRd
    have hnI : out.length ≤ 1000010 := by have := HKr.out.2; omega
    have HNI := Lib.hid hnI
    have HF := Lib.hid (show f + 1 + out.length ≤ 1000011 from HKr.out.2)
    have HOB := Lib.hid (fun g (hg : (Value.slice va out.length vc).ownBlock = some g) => own_blkG HR.out hg)
    clear hRd HM HKr
    by_cases he : st'.err = 0
    · rw [if_pos he] at hM
      have q : (st'.err == 0) = true := beq_iff_eq.2 he
      have hmz := eBlanks_max ts ii
      have hsm := HSM.out
      obtain ⟨k0, hk0⟩ : ∃ k0, eBlanks ts ii = k0 := ⟨_, rfl⟩
      have fA := eblanks_any HEr.out ii (by omega)
      rw [hk0] at hM hmz fA
      cases hCk : C k0 st' with
      | none => rw [hCk] at hM; cases hM
      | some r0 =>
        obtain ⟨x, to, st2⟩ := r0
        rw [hCk] at hM
        dsimp only at hM
        have HCK := Lib.hid hCk
        by_cases hto : to ≤ 2000000
        · rw [if_pos hto] at hM
          have hmx := eBlanks_max ts to
          obtain ⟨k, hk⟩ : ∃ k, eBlanks ts to = k := ⟨_, rfl⟩
          obtain ⟨kd, hkd⟩ : ∃ kd, (eTok ts k).kind = kd := ⟨_, rfl⟩
          rw [hk] at hM hmx
          rw [hkd] at hM
          have HKK := Lib.hid hk
          have HKD := Lib.hid hkd
          have hfd := fld_kind kd (eTok ts k).frm (eTok ts k).to (strOfNums (eTok ts k).text) (strOfNums (eTok ts k).num) (eTok ts k).whole
          have hkl : k ≤ 2000000 := by omega
          have hkI : (k : Int) ≤ 2000000 := by omega
          have hk0l : k0 ≤ 2900000 := by omega
          clear he hk hkd hmx hsm hk0 hCk
          by_cases hA : st2.err = 0 ∧ kd ≠ end'
          · rw [if_pos hA] at hM
            have a1 : (st2.err != 0) = false := by simp [hA.1]
            have a2 : (kd == end') = false := beq_eq_false_iff_ne.2 hA.2
            by_cases h3 : kd = 18
            · have a3 : (kd != 18) = false := by simp [h3]
              rw [if_pos h3] at hM
              have HM2 := Lib.hid hM
              clear hM hA h3
              go_wp2_with (first
                | (go_at_call 54; (with_reducible refine fA.mono ?_); rintro e w4 ⟨rfl, hb4⟩; have HX4 := Lib.hid hb4; have fC := HCC.out w4 st' k0 (HEr.out.later hb4) (by omega) _ HCK.out; have fC2 := fC.mono (R' := fun e w5 => ∃ xa xc, e = .returned (.tuple #[.agg #[.slice xa x.length xc], .int .i64 (to : Nat)]) ∧ RX d (okN w4.heap.size w5) w5 xa x.length xc x ∧ EyeAt w5 p E ts ps st2 ∧ GB w4 w5 p) (fun e w' h => h); clear fC hb4)
                | (go_at_call 53; (with_reducible refine fC2.mono ?_); rintro e w5 ⟨xa, xc, rfl, hx, h5, hg5⟩; have hg45 : GB wr w5 p := (GB.of_below HX4.out).trans hg5; have hb6 := ((Below.refl w5.heap.size w5).alloc (Nat.le_refl _) (.cells #[.slice xa x.length xc] 107)); have hb7 := hb6.alloc hb6.size (.cells #[.slice xa x.length xc] 107); have hg7 : GB wr ((w5.alloc (.cells #[.slice xa x.length xc] 107)).alloc (.cells #[.slice xa x.length xc] 107)) p := hg45.trans (GB.of_below hb7); have HR7 := Lib.hid (HR.out.keep (RX_moves d) (Nat.lt_of_lt_of_le HLT.out (by omega)) hg7); have H7 := Lib.hid (h5.later hb7); have HG7 := Lib.hid (HGr.out.trans hg7); have C6 := Lib.hid (show Blk (w5.alloc (.cells #[.slice xa x.length xc] 107)) w5.heap.size [.slice xa x.length xc] 107 from Blk.alloc [.slice xa x.length xc] _); have y6 := fun (o : Obj) => (show ((w5.alloc (.cells #[.slice xa x.length xc] 107)).alloc o).cell? ⟨w5.heap.size, 0, none⟩ = _ from (C6.out.alloc_old o).cell 0 _ rfl); have y5 := C6.out.cell 0 _ rfl; have E7 := Lib.hid (show Blk ((w5.alloc (.cells #[.slice xa x.length xc] 107)).alloc (.cells #[.slice xa x.length xc] 107)) (w5.heap.size + 1) [.slice xa x.length xc] 107 from by have hh : Blk ((w5.alloc (.cells #[.slice xa x.length xc] 107)).alloc (.cells #[.slice xa x.length xc] 107)) (w5.alloc (.cells #[.slice xa x.length xc] 107)).heap.size [.slice xa x.length xc] 107 := Blk.alloc [.slice xa x.length xc] _; rwa [show (w5.alloc (.cells #[.slice xa x.length xc] 107)).heap.size = w5.heap.size + 1 from by simp] at hh); have HX7 := Lib.hid (RX_moves d _ (okR ((w5.alloc (.cells #[.slice xa x.length xc] 107)).alloc (.cells #[.slice xa x.length xc] 107)) w.heap.size (.slice va out.length vc)) _ ((w5.alloc (.cells #[.slice xa x.length xc] 107)).alloc (.cells #[.slice xa x.length xc] 107)) _ _ _ x (fun b hb => ⟨⟨Nat.le_trans HSZ.out (Nat.le_trans HX4.out.size hb.1), Nat.lt_of_lt_of_le hb.2 hb7.size, fun e => by have := (HOB.out b e).2; have := hb.1; have := HX4.out.size; omega⟩, hb7.block b hb.2⟩) hx); have HS5 := Lib.hid hg45.size; clear hx h5 hg5 hg7 hg45 hb6 hb7)
                | (at_builtin; obtain ⟨ys, hy1, hy2, hy3⟩ := HR7.out; refine wpList_append_row2 rfl _ _ 45 rfl w.heap.size 107 iX _ 1 24 Tryz.underlying45 HIX.out.1 HIX.out.2.1 rfl (by decide) HIX.out.2.2.1 HIX.out.2.2.2 (.slice va out.length vc) out.length _ rfl hy2 ⟨w5.heap.size + 1, 0, none⟩ 1 (celX (d := d) x xa x.length xc) rfl rfl (celX_one _ _ _ _) (fun j u hu => by rw [show (⟨w5.heap.size + 1, 0, none⟩ : Addr).add j = ⟨w5.heap.size + 1, j, none⟩ from by simp [Addr.add]; intro hj; exact hj.symm]; exact E7.out.cell j u hu) (by unfold maxLen; omega) (by omega) (by have := HSZ.out; have := HS5.out; simp; omega) ?_; intro v8 w8 hown8 hgr8 hv8; obtain ⟨a8, c8, rfl⟩ := own_shape hown8; have hr8 := RowG.snoc (RX_moves d) hy1 hy3 HX7.out hown8 hgr8 hv8; have hn8 : ∀ j, j < w.heap.size → (Value.slice va out.length vc).ownBlock ≠ some j := (fun j hj hh => by have := (HOB.out _ hh).1; omega); have hg8 := gb_own HG7.out hgr8 (fun g hg => (HOB.out g hg).1); have hb8 := H7.out.blk.kept hgr8 (hn8 _ HLT.out); have HR8 := Lib.hid hr8; have HG8 := Lib.hid hg8; have H8 := Lib.hid (HE.out.grown hg8 hb8); have fB := eblanks_any H8.out to (by omega); rw [HKK.out] at fB; clear hy1 hy2 hy3 hown8 hgr8 hv8 hr8 hn8 hg8 hb8)
                | (go_at_call 54; (with_reducible refine fB.mono ?_); rintro e w9 ⟨rfl, hb9⟩; have HX9 := Lib.hid hb9; have h9 := H8.out.later hb9; have e9 := h9.blk.cell 5 _ rfl; have fT := tok_any h9 k (by omega); rw [tkV_eq, HKD.out] at fT; clear hb9 h9)
                | (go_at_call 55; (with_reducible refine fT.mono ?_); rintro e w10 ⟨rfl, hb10⟩; have HX10 := Lib.hid (bel_tr HX9.out hb10); have fT2 := tok_any (H8.out.later HX10.out) k (by omega); rw [tkV_eq, HKD.out] at fT2; clear hb10)
                | (go_at_call 55; (with_reducible refine fT2.mono ?_); rintro e w11 ⟨rfl, hb11⟩; have HX11 := Lib.hid (bel_tr HX10.out hb11); have fF := efail_any (H8.out.later HX11.out) 10 k (by omega); clear hb11))
              go_roundw
              case rel => exact ⟨k + 1, st2, out ++ [x], f, by go_num, Lib.hid (HR8.out.keep (RX_moves d) (p := p) HLT.out (GB.of_below HX11.out)), Lib.hid (H8.out.later HX11.out), Lib.hid (HG8.out.trans (GB.of_below HX11.out)), Lib.hid ⟨by omega, by rw [List.length_append]; have := HF.out; simp; omega⟩, Lib.hid (Nat.le_trans HG8.out.size HX11.out.size), HM2⟩
              case measure =>
                show 1000011 - (out.length + 1) < 1000011 - out.length
                omega
            · have a3 : (kd != 18) = true := bne_iff_ne.2 h3
              rw [if_neg h3] at hM
              have HM2 := Lib.hid hM
              clear hM hA h3
              go_wp2_with (first
                | (go_at_call 54; (with_reducible refine fA.mono ?_); rintro e w4 ⟨rfl, hb4⟩; have HX4 := Lib.hid hb4; have fC := HCC.out w4 st' k0 (HEr.out.later hb4) (by omega) _ HCK.out; have fC2 := fC.mono (R' := fun e w5 => ∃ xa xc, e = .returned (.tuple #[.agg #[.slice xa x.length xc], .int .i64 (to : Nat)]) ∧ RX d (okN w4.heap.size w5) w5 xa x.length xc x ∧ EyeAt w5 p E ts ps st2 ∧ GB w4 w5 p) (fun e w' h => h); clear fC hb4)
                | (go_at_call 53; (with_reducible refine fC2.mono ?_); rintro e w5 ⟨xa, xc, rfl, hx, h5, hg5⟩; have hg45 : GB wr w5 p := (GB.of_below HX4.out).trans hg5; have hb6 := ((Below.refl w5.heap.size w5).alloc (Nat.le_refl _) (.cells #[.slice xa x.length xc] 107)); have hb7 := hb6.alloc hb6.size (.cells #[.slice xa x.length xc] 107); have hg7 : GB wr ((w5.alloc (.cells #[.slice xa x.length xc] 107)).alloc (.cells #[.slice xa x.length xc] 107)) p := hg45.trans (GB.of_below hb7); have HR7 := Lib.hid (HR.out.keep (RX_moves d) (Nat.lt_of_lt_of_le HLT.out (by omega)) hg7); have H7 := Lib.hid (h5.later hb7); have HG7 := Lib.hid (HGr.out.trans hg7); have C6 := Lib.hid (show Blk (w5.alloc (.cells #[.slice xa x.length xc] 107)) w5.heap.size [.slice xa x.length xc] 107 from Blk.alloc [.slice xa x.length xc] _); have y6 := fun (o : Obj) => (show ((w5.alloc (.cells #[.slice xa x.length xc] 107)).alloc o).cell? ⟨w5.heap.size, 0, none⟩ = _ from (C6.out.alloc_old o).cell 0 _ rfl); have y5 := C6.out.cell 0 _ rfl; have E7 := Lib.hid (show Blk ((w5.alloc (.cells #[.slice xa x.length xc] 107)).alloc (.cells #[.slice xa x.length xc] 107)) (w5.heap.size + 1) [.slice xa x.length xc] 107 from by have hh : Blk ((w5.alloc (.cells #[.slice xa x.length xc] 107)).alloc (.cells #[.slice xa x.length xc] 107)) (w5.alloc (.cells #[.slice xa x.length xc] 107)).heap.size [.slice xa x.length xc] 107 := Blk.alloc [.slice xa x.length xc] _; rwa [show (w5.alloc (.cells #[.slice xa x.length xc] 107)).heap.size = w5.heap.size + 1 from by simp] at hh); have HX7 := Lib.hid (RX_moves d _ (okR ((w5.alloc (.cells #[.slice xa x.length xc] 107)).alloc (.cells #[.slice xa x.length xc] 107)) w.heap.size (.slice va out.length vc)) _ ((w5.alloc (.cells #[.slice xa x.length xc] 107)).alloc (.cells #[.slice xa x.length xc] 107)) _ _ _ x (fun b hb => ⟨⟨Nat.le_trans HSZ.out (Nat.le_trans HX4.out.size hb.1), Nat.lt_of_lt_of_le hb.2 hb7.size, fun e => by have := (HOB.out b e).2; have := hb.1; have := HX4.out.size; omega⟩, hb7.block b hb.2⟩) hx); have HS5 := Lib.hid hg45.size; clear hx h5 hg5 hg7 hg45 hb6 hb7)
                | (at_builtin; obtain ⟨ys, hy1, hy2, hy3⟩ := HR7.out; refine wpList_append_row2 rfl _ _ 45 rfl w.heap.size 107 iX _ 1 24 Tryz.underlying45 HIX.out.1 HIX.out.2.1 rfl (by decide) HIX.out.2.2.1 HIX.out.2.2.2 (.slice va out.length vc) out.length _ rfl hy2 ⟨w5.heap.size + 1, 0, none⟩ 1 (celX (d := d) x xa x.length xc) rfl rfl (celX_one _ _ _ _) (fun j u hu => by rw [show (⟨w5.heap.size + 1, 0, none⟩ : Addr).add j = ⟨w5.heap.size + 1, j, none⟩ from by simp [Addr.add]; intro hj; exact hj.symm]; exact E7.out.cell j u hu) (by unfold maxLen; omega) (by omega) (by have := HSZ.out; have := HS5.out; simp; omega) ?_; intro v8 w8 hown8 hgr8 hv8; obtain ⟨a8, c8, rfl⟩ := own_shape hown8; have hr8 := RowG.snoc (RX_moves d) hy1 hy3 HX7.out hown8 hgr8 hv8; have hn8 : ∀ j, j < w.heap.size → (Value.slice va out.length vc).ownBlock ≠ some j := (fun j hj hh => by have := (HOB.out _ hh).1; omega); have hg8 := gb_own HG7.out hgr8 (fun g hg => (HOB.out g hg).1); have hb8 := H7.out.blk.kept hgr8 (hn8 _ HLT.out); have HR8 := Lib.hid hr8; have HG8 := Lib.hid hg8; have H8 := Lib.hid (HE.out.grown hg8 hb8); have fB := eblanks_any H8.out to (by omega); rw [HKK.out] at fB; clear hy1 hy2 hy3 hown8 hgr8 hv8 hr8 hn8 hg8 hb8)
                | (go_at_call 54; (with_reducible refine fB.mono ?_); rintro e w9 ⟨rfl, hb9⟩; have HX9 := Lib.hid hb9; have h9 := H8.out.later hb9; have e9 := h9.blk.cell 5 _ rfl; have fT := tok_any h9 k (by omega); rw [tkV_eq, HKD.out] at fT; clear hb9 h9)
                | (go_at_call 55; (with_reducible refine fT.mono ?_); rintro e w10 ⟨rfl, hb10⟩; have HX10 := Lib.hid (bel_tr HX9.out hb10); have fT2 := tok_any (H8.out.later HX10.out) k (by omega); rw [tkV_eq, HKD.out] at fT2; clear hb10)
                | (go_at_call 55; (with_reducible refine fT2.mono ?_); rintro e w11 ⟨rfl, hb11⟩; have HX11 := Lib.hid (bel_tr HX10.out hb11); have fF := efail_any (H8.out.later HX11.out) 10 k (by omega); clear hb11)
                | (go_at_call 56; (with_reducible refine fF.mono ?_); rintro e w12 ⟨rfl, h12, hg12⟩; have H12 := Lib.hid h12; have HG12 := Lib.hid hg12; clear h12 hg12))
              go_roundw
              case rel => exact ⟨k + 1, eFail ts st2 10 k, out ++ [x], f, by go_num, Lib.hid ((HR8.out.keep (RX_moves d) (p := p) HLT.out (GB.of_below HX11.out)).keep (RX_moves d) (p := p) HLT.out HG12.out), H12, Lib.hid ((HG8.out.trans (GB.of_below HX11.out)).trans HG12.out), Lib.hid ⟨by omega, by rw [List.length_append]; have := HF.out; simp; omega⟩, Lib.hid (Nat.le_trans (Nat.le_trans HG8.out.size HX11.out.size) HG12.out.size), HM2⟩
              case measure =>
                show 1000011 - (out.length + 1) < 1000011 - out.length
                omega
          · rw [if_neg hA] at hM
            obtain rfl := Option.some.inj hM
            clear hM
            by_cases h1 : st2.err = 0
            · have a1 : (st2.err != 0) = false := by simp [h1]
              have h2 : kd = end' := by
                by_cases h2 : kd = end'
                · exact h2
                · exact absurd ⟨h1, h2⟩ hA
              have a2 : (kd == end') = true := beq_iff_eq.2 h2
              clear hA h1 h2
              go_wp2_with (first
                | (go_at_call 54; (with_reducible refine fA.mono ?_); rintro e w4 ⟨rfl, hb4⟩; have HX4 := Lib.hid hb4; have fC := HCC.out w4 st' k0 (HEr.out.later hb4) (by omega) _ HCK.out; have fC2 := fC.mono (R' := fun e w5 => ∃ xa xc, e = .returned (.tuple #[.agg #[.slice xa x.length xc], .int .i64 (to : Nat)]) ∧ RX d (okN w4.heap.size w5) w5 xa x.length xc x ∧ EyeAt w5 p E ts ps st2 ∧ GB w4 w5 p) (fun e w' h => h); clear fC hb4)
                | (go_at_call 53; (with_reducible refine fC2.mono ?_); rintro e w5 ⟨xa, xc, rfl, hx, h5, hg5⟩; have hg45 : GB wr w5 p := (GB.of_below HX4.out).trans hg5; have hb6 := ((Below.refl w5.heap.size w5).alloc (Nat.le_refl _) (.cells #[.slice xa x.length xc] 107)); have hb7 := hb6.alloc hb6.size (.cells #[.slice xa x.length xc] 107); have hg7 : GB wr ((w5.alloc (.cells #[.slice xa x.length xc] 107)).alloc (.cells #[.slice xa x.length xc] 107)) p := hg45.trans (GB.of_below hb7); have HR7 := Lib.hid (HR.out.keep (RX_moves d) (Nat.lt_of_lt_of_le HLT.out (by omega)) hg7); have H7 := Lib.hid (h5.later hb7); have HG7 := Lib.hid (HGr.out.trans hg7); have C6 := Lib.hid (show Blk (w5.alloc (.cells #[.slice xa x.length xc] 107)) w5.heap.size [.slice xa x.length xc] 107 from Blk.alloc [.slice xa x.length xc] _); have y6 := fun (o : Obj) => (show ((w5.alloc (.cells #[.slice xa x.length xc] 107)).alloc o).cell? ⟨w5.heap.size, 0, none⟩ = _ from (C6.out.alloc_old o).cell 0 _ rfl); have y5 := C6.out.cell 0 _ rfl; have E7 := Lib.hid (show Blk ((w5.alloc (.cells #[.slice xa x.length xc] 107)).alloc (.cells #[.slice xa x.length xc] 107)) (w5.heap.size + 1) [.slice xa x.length xc] 107 from by have hh : Blk ((w5.alloc (.cells #[.slice xa x.length xc] 107)).alloc (.cells #[.slice xa x.length xc] 107)) (w5.alloc (.cells #[.slice xa x.length xc] 107)).heap.size [.slice xa x.length xc] 107 := Blk.alloc [.slice xa x.length xc] _; rwa [show (w5.alloc (.cells #[.slice xa x.length xc] 107)).heap.size = w5.heap.size + 1 from by simp] at hh); have HX7 := Lib.hid (RX_moves d _ (okR ((w5.alloc (.cells #[.slice xa x.length xc] 107)).alloc (.cells #[.slice xa x.length xc] 107)) w.heap.size (.slice va out.length vc)) _ ((w5.alloc (.cells #[.slice xa x.length xc] 107)).alloc (.cells #[.slice xa x.length xc] 107)) _ _ _ x (fun b hb => ⟨⟨Nat.le_trans HSZ.out (Nat.le_trans HX4.out.size hb.1), Nat.lt_of_lt_of_le hb.2 hb7.size, fun e => by have := (HOB.out b e).2; have := hb.1; have := HX4.out.size; omega⟩, hb7.block b hb.2⟩) hx); have HS5 := Lib.hid hg45.size; clear hx h5 hg5 hg7 hg45 hb6 hb7)
                | (at_builtin; obtain ⟨ys, hy1, hy2, hy3⟩ := HR7.out; refine wpList_append_row2 rfl _ _ 45 rfl w.heap.size 107 iX _ 1 24 Tryz.underlying45 HIX.out.1 HIX.out.2.1 rfl (by decide) HIX.out.2.2.1 HIX.out.2.2.2 (.slice va out.length vc) out.length _ rfl hy2 ⟨w5.heap.size + 1, 0, none⟩ 1 (celX (d := d) x xa x.length xc) rfl rfl (celX_one _ _ _ _) (fun j u hu => by rw [show (⟨w5.heap.size + 1, 0, none⟩ : Addr).add j = ⟨w5.heap.size + 1, j, none⟩ from by simp [Addr.add]; intro hj; exact hj.symm]; exact E7.out.cell j u hu) (by unfold maxLen; omega) (by omega) (by have := HSZ.out; have := HS5.out; simp; omega) ?_; intro v8 w8 hown8 hgr8 hv8; obtain ⟨a8, c8, rfl⟩ := own_shape hown8; have hr8 := RowG.snoc (RX_moves d) hy1 hy3 HX7.out hown8 hgr8 hv8; have hn8 : ∀ j, j < w.heap.size → (Value.slice va out.length vc).ownBlock ≠ some j := (fun j hj hh => by have := (HOB.out _ hh).1; omega); have hg8 := gb_own HG7.out hgr8 (fun g hg => (HOB.out g hg).1); have hb8 := H7.out.blk.kept hgr8 (hn8 _ HLT.out); have HR8 := Lib.hid hr8; have HG8 := Lib.hid hg8; have H8 := Lib.hid (HE.out.grown hg8 hb8); have fB := eblanks_any H8.out to (by omega); rw [HKK.out] at fB; clear hy1 hy2 hy3 hown8 hgr8 hv8 hr8 hn8 hg8 hb8)
                | (go_at_call 54; (with_reducible refine fB.mono ?_); rintro e w9 ⟨rfl, hb9⟩; have HX9 := Lib.hid hb9; have h9 := H8.out.later hb9; have e9 := h9.blk.cell 5 _ rfl; have fT := tok_any h9 k (by omega); rw [tkV_eq, HKD.out] at fT; clear hb9 h9)
                | (go_at_call 55; (with_reducible refine fT.mono ?_); rintro e w10 ⟨rfl, hb10⟩; have HX10 := Lib.hid (bel_tr HX9.out hb10); have fT2 := tok_any (H8.out.later HX10.out) k (by omega); rw [tkV_eq, HKD.out] at fT2; clear hb10))
              exact ELP_end (n := out.length + 1) (by simp [results, Tryz.results37, go_sem]) (by rw [List.length_append]; rfl) (HR8.out.keep (RX_moves d) (p := p) HLT.out (GB.of_below HX10.out)) (by rw [List.length_append]; simp; omega) (HG8.out.trans (GB.of_below HX10.out)) (H8.out.later HX10.out) rfl
            · have a1 : (st2.err != 0) = true := bne_iff_ne.2 h1
              clear hA h1
              go_wp2_with (first
                | (go_at_call 54; (with_reducible refine fA.mono ?_); rintro e w4 ⟨rfl, hb4⟩; have HX4 := Lib.hid hb4; have fC := HCC.out w4 st' k0 (HEr.out.later hb4) (by omega) _ HCK.out; have fC2 := fC.mono (R' := fun e w5 => ∃ xa xc, e = .returned (.tuple #[.agg #[.slice xa x.length xc], .int .i64 (to : Nat)]) ∧ RX d (okN w4.heap.size w5) w5 xa x.length xc x ∧ EyeAt w5 p E ts ps st2 ∧ GB w4 w5 p) (fun e w' h => h); clear fC hb4)
                | (go_at_call 53; (with_reducible refine fC2.mono ?_); rintro e w5 ⟨xa, xc, rfl, hx, h5, hg5⟩; have hg45 : GB wr w5 p := (GB.of_below HX4.out).trans hg5; have hb6 := ((Below.refl w5.heap.size w5).alloc (Nat.le_refl _) (.cells #[.slice xa x.length xc] 107)); have hb7 := hb6.alloc hb6.size (.cells #[.slice xa x.length xc] 107); have hg7 : GB wr ((w5.alloc (.cells #[.slice xa x.length xc] 107)).alloc (.cells #[.slice xa x.length xc] 107)) p := hg45.trans (GB.of_below hb7); have HR7 := Lib.hid (HR.out.keep (RX_moves d) (Nat.lt_of_lt_of_le HLT.out (by omega)) hg7); have H7 := Lib.hid (h5.later hb7); have HG7 := Lib.hid (HGr.out.trans hg7); have C6 := Lib.hid (show Blk (w5.alloc (.cells #[.slice xa x.length xc] 107)) w5.heap.size [.slice xa x.length xc] 107 from Blk.alloc [.slice xa x.length xc] _); have y6 := fun (o : Obj) => (show ((w5.alloc (.cells #[.slice xa x.length xc] 107)).alloc o).cell? ⟨w5.heap.size, 0, none⟩ = _ from (C6.out.alloc_old o).cell 0 _ rfl); have y5 := C6.out.cell 0 _ rfl; have E7 := Lib.hid (show Blk ((w5.alloc (.cells #[.slice xa x.length xc] 107)).alloc (.cells #[.slice xa x.length xc] 107)) (w5.heap.size + 1) [.slice xa x.length xc] 107 from by have hh : Blk ((w5.alloc (.cells #[.slice xa x.length xc] 107)).alloc (.cells #[.slice xa x.length xc] 107)) (w5.alloc (.cells #[.slice xa x.length xc] 107)).heap.size [.slice xa x.length xc] 107 := Blk.alloc [.slice xa x.length xc] _; rwa [show (w5.alloc (.cells #[.slice xa x.length xc] 107)).heap.size = w5.heap.size + 1 from by simp] at hh); have HX7 := Lib.hid (RX_moves d _ (okR ((w5.alloc (.cells #[.slice xa x.length xc] 107)).alloc (.cells #[.slice xa x.length xc] 107)) w.heap.size (.slice va out.length vc)) _ ((w5.alloc (.cells #[.slice xa x.length xc] 107)).alloc (.cells #[.slice xa x.length xc] 107)) _ _ _ x (fun b hb => ⟨⟨Nat.le_trans HSZ.out (Nat.le_trans HX4.out.size hb.1), Nat.lt_of_lt_of_le hb.2 hb7.size, fun e => by have := (HOB.out b e).2; have := hb.1; have := HX4.out.size; omega⟩, hb7.block b hb.2⟩) hx); have HS5 := Lib.hid hg45.size; clear hx h5 hg5 hg7 hg45 hb6 hb7)
                | (at_builtin; obtain ⟨ys, hy1, hy2, hy3⟩ := HR7.out; refine wpList_append_row2 rfl _ _ 45 rfl w.heap.size 107 iX _ 1 24 Tryz.underlying45 HIX.out.1 HIX.out.2.1 rfl (by decide) HIX.out.2.2.1 HIX.out.2.2.2 (.slice va out.length vc) out.length _ rfl hy2 ⟨w5.heap.size + 1, 0, none⟩ 1 (celX (d := d) x xa x.length xc) rfl rfl (celX_one _ _ _ _) (fun j u hu => by rw [show (⟨w5.heap.size + 1, 0, none⟩ : Addr).add j = ⟨w5.heap.size + 1, j, none⟩ from by simp [Addr.add]; intro hj; exact hj.symm]; exact E7.out.cell j u hu) (by unfold maxLen; omega) (by omega) (by have := HSZ.out; have := HS5.out; simp; omega) ?_; intro v8 w8 hown8 hgr8 hv8; obtain ⟨a8, c8, rfl⟩ := own_shape hown8; have hr8 := RowG.snoc (RX_moves d) hy1 hy3 HX7.out hown8 hgr8 hv8; have hn8 : ∀ j, j < w.heap.size → (Value.slice va out.length vc).ownBlock ≠ some j := (fun j hj hh => by have := (HOB.out _ hh).1; omega); have hg8 := gb_own HG7.out hgr8 (fun g hg => (HOB.out g hg).1); have hb8 := H7.out.blk.kept hgr8 (hn8 _ HLT.out); have HR8 := Lib.hid hr8; have HG8 := Lib.hid hg8; have H8 := Lib.hid (HE.out.grown hg8 hb8); have fB := eblanks_any H8.out to (by omega); rw [HKK.out] at fB; clear hy1 hy2 hy3 hown8 hgr8 hv8 hr8 hn8 hg8 hb8)
                | (go_at_call 54; (with_reducible refine fB.mono ?_); rintro e w9 ⟨rfl, hb9⟩; have HX9 := Lib.hid hb9; have h9 := H8.out.later hb9; have e9 := h9.blk.cell 5 _ rfl; have fT := tok_any h9 k (by omega); rw [tkV_eq, HKD.out] at fT; clear hb9 h9))
              exact ELP_end (n := out.length + 1) (by simp [results, Tryz.results37, go_sem]) (by rw [List.length_append]; rfl) (HR8.out.keep (RX_moves d) (p := p) HLT.out (GB.of_below HX9.out)) (by rw [List.length_append]; simp; omega) (HG8.out.trans (GB.of_below HX9.out)) (H8.out.later HX9.out) rfl
        · rw [if_neg hto] at hM; cases hM
    · rw [if_neg he] at hM
      have q : (st'.err == 0) = false := beq_eq_false_iff_ne.2 he
      obtain rfl := Option.some.inj hM
      clear he hM
      go_wp2
      exact ELP_end (by simp [results, Tryz.results37, go_sem]) rfl HR.out (by omega) HGr.out HEr.out rfl
end

section
open Go.RowKit
set_option linter.unusedVariables false
set_option linter.unusedSimpArgs false
def SelPost {d : Nat} (l : List (Xm d)) (w : World) (e : Ending) (w' : World) : Prop :=
  ∃ a c, e = .returned (.tuple #[.slice a l.length c, .int .i64 0, .int .i64 0]) ∧ RdL (okN w.heap.size w') (d + 1) w' a l.length c l ∧ Below w.heap.size w w'
theorem below_of_gb {w w1 w2 : World} {p : Nat} (h : Below w.heap.size w w1) (hp : w.heap.size ≤ p) (hg : GB w1 w2 p) : Below w.heap.size w w2 :=
  ⟨hg.os.trans h.os, hg.tape.trans h.tape, hg.output.trans h.output, Nat.le_trans h.size hg.size, fun b hb => (hg.block b (Nat.lt_of_lt_of_le hb h.size) (fun e => by have := Option.some.inj e; omega)).trans (h.block b hb)⟩
set_option maxRecDepth 100000 in
set_option maxHeartbeats 4000000 in
theorem etokens_any {d : Nat} {w : World} {lb lc n : Nat} {ts : List Tk} {nm : Nm} {N : NmV} {C : Nat → Es → Option (Xm d × Nat × Es)} (hn : ts.length = n) (hT : ReadsT w (some ⟨lb, 0, none⟩) lc ts) (hN : NmAt (· < w.heap.size) w N nm) (hok : NmOk nm) (hnb : namesB nm = true)
    (m : Nat) (hm : m + 1 = n) (hk : ∀ i t, ts[i]? = some t → (t.kind = 0 ↔ i = m)) (hsm : n ≤ 1000000) (hC : ∀ p E, CplxC d p E ts nm.ps 0 1 C)
    (l : List (Xm d)) (k : Nat) (st : Es) (hl : listGo C ts 0 (ts.length + 10) 0 ⟨0, 0, 0, false⟩ [] = some (l, k, st)) (h0 : st.err = 0) (h1 : st.seen = false) :
    Calls Tryz.prog 23 #[.slice (some ⟨lb, 0, none⟩) n lc, nmV nm N] w (SelPost l w) := by
  have cN := names8_any hN hok
  rw [hnb] at cN
  have HT := Lib.hid hT
  have HN := Lib.hid hN
  have HCC := Lib.hid hC
  have HL := Lib.hid hl
  have HK := Lib.hid hk
  have HLN := Lib.hid hn
  have HH0 := Lib.hid h0
  have HH1 := Lib.hid h1
  have hnm : n ≤ 9223372036854775807 := by omega
  have hlcc : n ≤ lc := by rw [← hn]; exact hT.1
  have hmI : (m : Int) < (n : Int) := by omega
  have HMN := Lib.hid hm
  have hb0 := (Below.refl w.heap.size w).alloc (Nat.le_refl _) (.cells #[.bool nm.hd, .string nm.df, .slice N.pa N.pn N.pc, .slice N.sa N.sn N.sc] 25)
  have HB0 := Lib.hid hb0
  have D0 := Lib.hid (show Blk (w.alloc (.cells #[.bool nm.hd, .string nm.df, .slice N.pa N.pn N.pc, .slice N.sa N.sn N.sc] 25)) w.heap.size [.bool nm.hd, .string nm.df, .slice N.pa N.pn N.pc, .slice N.sa N.sn N.sc] 25 from Blk.alloc [.bool nm.hd, .string nm.df, .slice N.pa N.pn N.pc, .slice N.sa N.sn N.sc] _)
  have z0 := D0.out.cell 0 _ rfl
  have z1 := D0.out.cell 1 _ rfl
  have z2 := D0.out.cell 2 _ rfl
  have z3 := D0.out.cell 3 _ rfl
  have cN2 := names8_any (hN.move (fun b hb => ⟨Nat.lt_of_lt_of_le hb HB0.out.size, HB0.out.block b hb⟩)) hok
  rw [hnb] at cN2
  unfold nmV at cN2
  clear hT hN hC hl hk hn hb0 hok hnb cN h0 h1
  unfold nmV
  go_enter Tryz.func23, Tryz.ntmps23
  go_wp2_with (go_at_call 36; (with_reducible refine cN2.mono ?_); rintro e w1 ⟨rfl, hb1⟩; have HB1 := Lib.hid (HB0.out.trans (hb1.mono HB0.out.size)); have D1 := Lib.hid (D0.out.later hb1 D0.out.lt); clear hb1)
  go_loopw [7, 8] (fun v i wr => ∃ j : Nat, j ≤ m ∧ i = .int .i64 j ∧ v = .slice (some ⟨lb, 0, none⟩) n lc ∧ wr = w1) (fun _ i _ => n - (intOf i).toNat)
  case atStart => exact ⟨0, Nat.zero_le _, rfl, rfl, rfl⟩
  case round =>
    obtain ⟨j, hj, rfl, rfl, rfl⟩ := hrel
    obtain ⟨t, ht⟩ : ∃ t, ts[j]? = some t := ⟨_, List.getElem?_eq_getElem (by rw [HLN.out]; omega)⟩
    obtain ⟨_, _, b, hb, hlt, hc⟩ := HT.out
    cases hb
    have u0 := hc (j * 6 + 0) (.int .i64 t.kind) ((flat_get ts j 0 t ht (by omega)).trans rfl)
    rw [Nat.add_zero, ← HB1.out.cell (p := ⟨lb, j * 6, none⟩) hlt] at u0
    have hjI : (0 : Int) ≤ (j : Int) := by omega
    have hjI2 : (j : Int) < (n : Int) := by omega
    have hjx : (j : Int) + 1 ≤ (n : Int) := by omega
    have hjc : (j : Int) + 1 ≤ (lc : Int) := by omega
    by_cases hjm : j = m
    · have hk0 : t.kind = 0 := (HK.out j t ht).2 hjm
      rw [hk0] at u0
      have hltb := HB1.out.size
      clear hc ht
      subst hjm
      have hnj : n = j + 1 := HMN.out.symm
      subst hnj
      have hE : EyeAt (wr.alloc (.cells #[.slice (some ⟨lb, 0, none⟩) (j + 1) lc, .bool nm.hd, .string nm.df, .slice N.pa N.pn N.pc, .slice N.sa N.sn N.sc, .int .i64 0, .int .i64 0, .int .i64 0, .bool false] 96)) wr.heap.size ⟨lb, lc, nm.hd, nm.df, N.pa, N.pn, N.pc, N.sa, N.sn, N.sc⟩ ts nm.ps ⟨0, 0, 0, false⟩ := by
        have hbw := HB1.out.alloc HB1.out.size (.cells #[.slice (some ⟨lb, 0, none⟩) (j + 1) lc, .bool nm.hd, .string nm.df, .slice N.pa N.pn N.pc, .slice N.sa N.sn N.sc, .int .i64 0, .int .i64 0, .int .i64 0, .bool false] 96)
        refine ⟨?_, HT.out.later hbw, RsOf.imp HN.out.pres (fun b hb => ⟨Nat.lt_of_lt_of_le hb hbw.size, by omega⟩) (fun b o x hb hx => hx.move (hbw.block b hb)), by show lb ≠ _; omega, by rw [HLN.out]; omega, by rw [HLN.out]; omega⟩
        rw [HLN.out]
        exact Blk.alloc (eyCells ⟨lb, lc, nm.hd, nm.df, N.pa, N.pn, N.pc, N.sa, N.sn, N.sc⟩ (j + 1) ⟨0, 0, 0, false⟩) _
      have HBW := Lib.hid (HB1.out.alloc HB1.out.size (.cells #[.slice (some ⟨lb, 0, none⟩) (j + 1) lc, .bool nm.hd, .string nm.df, .slice N.pa N.pn N.pc, .slice N.sa N.sn N.sc, .int .i64 0, .int .i64 0, .int .i64 0, .bool false] 96))
      have HEE := Lib.hid hE
      have fL : Calls Tryz.prog 37 #[.pointer (some ⟨wr.heap.size, 0, none⟩), .int .i64 0, .int .i64 0, .int .i64 1] _ _ := elist_any (HCC.out wr.heap.size _) hE 0 (by omega) (l, k, st) HL.out
      have fL := fL.mono (R' := fun e w5 => ∃ a c, e = .returned (.tuple #[.slice a l.length c, .int .i64 (k : Nat)]) ∧ RdL (okN (wr.alloc (.cells #[.slice (some ⟨lb, 0, none⟩) (j + 1) lc, .bool nm.hd, .string nm.df, .slice N.pa N.pn N.pc, .slice N.sa N.sn N.sc, .int .i64 0, .int .i64 0, .int .i64 0, .bool false] 96)).heap.size w5) (d + 1) w5 a l.length c l ∧ EyeAt w5 wr.heap.size ⟨lb, lc, nm.hd, nm.df, N.pa, N.pn, N.pc, N.sa, N.sn, N.sc⟩ ts nm.ps st ∧ GB (wr.alloc (.cells #[.slice (some ⟨lb, 0, none⟩) (j + 1) lc, .bool nm.hd, .string nm.df, .slice N.pa N.pn N.pc, .slice N.sa N.sn N.sc, .int .i64 0, .int .i64 0, .int .i64 0, .bool false] 96)) w5 wr.heap.size) (fun e w' h => h)
      have y0 := D1.out.cell 0 _ rfl
      have y1 := D1.out.cell 1 _ rfl
      have y2 := D1.out.cell 2 _ rfl
      have y3 := D1.out.cell 3 _ rfl
      have q1 : (st.err != 0) = false := by rw [HH0.out]; rfl
      have HSZ := Lib.hid hltb
      clear hlt hltb hE
      go_wp2_with (go_at_call 37; (with_reducible refine fL.mono ?_); rintro e w5 ⟨a, c, rfl, hx, h5, hg5⟩; have e5 := h5.blk.cell 5 _ rfl; have e8 := h5.blk.cell 8 _ rfl; rw [HH1.out] at e8; have HX := Lib.hid hx; have HG5 := Lib.hid hg5; clear hx h5 hg5)
      refine bodyPost_ret (v := .tuple #[.slice a l.length c, .int .i64 0, .int .i64 0]) (by simp [results, Tryz.results23, go_sem]) rfl ⟨a, c, rfl, ?_, below_of_gb HBW.out HSZ.out HG5.out⟩
      exact RdL.move (fun b hb => ⟨⟨Nat.le_trans HBW.out.size hb.1, hb.2⟩, rfl⟩) HX.out
    · have hk0 : (t.kind == 0) = false := beq_eq_false_iff_ne.2 (fun e => hjm ((HK.out j t ht).1 e))
      clear hc ht hlt
      go_wp2
      go_roundw
      case rel => exact ⟨j + 1, by omega, by go_num, by first | exact rfl | trivial⟩
      case measure => simp [intOf]; omega
end

section
open Go.RowKit
set_option linter.unusedVariables false
set_option linter.unusedSimpArgs false
set_option maxRecDepth 100000 in
set_option maxHeartbeats 4000000 in
theorem esel_any {d : Nat} {w : World} {ba : Option Addr} {bn bc n : Nat} {ts : List Tk} {nm : Nm} {N : NmV} {C : Nat → Es → Option (Xm d × Nat × Es)} (hR : ∀ w', Below w.heap.size w w' → Calls Tryz.prog 24 #[.slice ba bn bc] w' (TksPost ts w')) (hn : ts.length = n) (hN : NmAt (· < w.heap.size) w N nm) (hok : NmOk nm) (hnb : namesB nm = true)
    (m : Nat) (hm : m + 1 = n) (hk : ∀ i t, ts[i]? = some t → (t.kind = 0 ↔ i = m)) (hsm : n ≤ 1000000) (hC : ∀ p E, CplxC d p E ts nm.ps 0 1 C)
    (l : List (Xm d)) (k : Nat) (st : Es) (hl : listGo C ts 0 (ts.length + 10) 0 ⟨0, 0, 0, false⟩ [] = some (l, k, st)) (h0 : st.err = 0) (h1 : st.seen = false) :
    Calls Tryz.prog 12 #[.slice ba bn bc, nmV nm N] w (SelPost l w) := by
  have hb0 := (Below.refl w.heap.size w).alloc (Nat.le_refl _) (.cells #[.bool nm.hd, .string nm.df, .slice N.pa N.pn N.pc, .slice N.sa N.sn N.sc] 25)
  have HB0 := Lib.hid hb0
  have D0 := Lib.hid (show Blk (w.alloc (.cells #[.bool nm.hd, .string nm.df, .slice N.pa N.pn N.pc, .slice N.sa N.sn N.sc] 25)) w.heap.size [.bool nm.hd, .string nm.df, .slice N.pa N.pn N.pc, .slice N.sa N.sn N.sc] 25 from Blk.alloc [.bool nm.hd, .string nm.df, .slice N.pa N.pn N.pc, .slice N.sa N.sn N.sc] _)
  have HBD := Lib.hid (hb0.drew)
  have DD := Lib.hid (D0.out.drewN 1)
  have z0 : (w.alloc (.cells #[.bool nm.hd, .string nm.df, .slice N.pa N.pn N.pc, .slice N.sa N.sn N.sc] 25)).drew.cell? ⟨w.heap.size, 0, none⟩ = some (.bool nm.hd) := D0.out.cell 0 _ rfl
  have z1 : (w.alloc (.cells #[.bool nm.hd, .string nm.df, .slice N.pa N.pn N.pc, .slice N.sa N.sn N.sc] 25)).drew.cell? ⟨w.heap.size, 1, none⟩ = some (.string nm.df) := D0.out.cell 1 _ rfl
  have z2 : (w.alloc (.cells #[.bool nm.hd, .string nm.df, .slice N.pa N.pn N.pc, .slice N.sa N.sn N.sc] 25)).drew.cell? ⟨w.heap.size, 2, none⟩ = some (.slice N.pa N.pn N.pc) := D0.out.cell 2 _ rfl
  have z3 : (w.alloc (.cells #[.bool nm.hd, .string nm.df, .slice N.pa N.pn N.pc, .slice N.sa N.sn N.sc] 25)).drew.cell? ⟨w.heap.size, 3, none⟩ = some (.slice N.sa N.sn N.sc) := D0.out.cell 3 _ rfl
  have fR := hR _ HBD.out
  have HNN := Lib.hid hN
  have HTK := Lib.hid (fun (w1 : World) (lb lc : Nat) (hb : Below w.heap.size w w1) (hT : ReadsT w1 (some ⟨lb, 0, none⟩) lc ts) => etokens_any hn hT (hN.move (fun b h => ⟨Nat.lt_of_lt_of_le h hb.size, hb.block b h⟩)) hok hnb m hm hk hsm hC l k st hl h0 h1)
  subst hn
  clear hR hN hok hnb hk hC hl h0 h1 hb0
  unfold nmV at *
  go_enter Tryz.func12, Tryz.ntmps12
  go_wp2
  go_region_held3 (fun w' => w'.cell? ⟨w.heap.size, 0, none⟩ = some (.bool nm.hd) ∧ w'.cell? ⟨w.heap.size, 1, none⟩ = some (.string nm.df) ∧ w'.cell? ⟨w.heap.size, 2, none⟩ = some (.slice N.pa N.pn N.pc) ∧ w'.cell? ⟨w.heap.size, 3, none⟩ = some (.slice N.sa N.sn N.sc)) (first | exact ⟨z0, z1, z2, z3⟩ | exact ⟨y0, y1, y2, y3⟩ | exact ⟨x0, x1, x2, x3⟩) (first
    | (go_at_call 24; (with_reducible refine fR.mono ?_); rintro e w1 ⟨a1, c1, rfl, hT1, hb1⟩; obtain ⟨t1, t2, lb, rfl, t3⟩ := hT1; have H1 := Lib.hid (HBD.out.trans (hb1.mono HBD.out.size)); have D1 := Lib.hid (DD.out.later hb1 DD.out.lt); have y0 := D1.out.cell 0 _ rfl; have y1 := D1.out.cell 1 _ rfl; have y2 := D1.out.cell 2 _ rfl; have y3 := D1.out.cell 3 _ rfl; have fT := HTK.out w1 lb c1 H1.out ⟨t1, t2, lb, rfl, t3⟩; clear hb1)
    | (go_at_call 23; (with_reducible refine fT.mono ?_); rintro e w2 ⟨a2, c2, rfl, hx2, hb2⟩; have H2 := Lib.hid (H1.out.trans (hb2.mono H1.out.size)); have D2 := Lib.hid (D1.out.later hb2 D1.out.lt); have x0 := D2.out.cell 0 _ rfl; have x1 := D2.out.cell 1 _ rfl; have x2 := D2.out.cell 2 _ rfl; have x3 := D2.out.cell 3 _ rfl; have HX := Lib.hid hx2; clear hx2 hb2))
  go_wp2
  refine bodyPost_ret (v := .tuple #[.slice a2 l.length c2, .int .i64 0, .int .i64 0]) (by simp [results, Tryz.results12, go_sem]) rfl ⟨a2, c2, rfl, ?_, H2.out⟩
  exact RdL.move (fun b hb => ⟨⟨Nat.le_trans H1.out.size hb.1, hb.2⟩, rfl⟩) HX.out
end

section
open Go.RowKit
set_option linter.unusedVariables false
set_option linter.unusedSimpArgs false
def cplxP (d : Nat) (ts : List Tk) (ps : List ByteArray) (end' : Int) (i : Nat) (st : Es) : Option (Xm d × Nat × Es) :=
  complexGo (fun i st => eCompound (eSimpleP d ts) ts ps st i) ts end' (ts.length + 10) i 0 st []
theorem cplxP_ok (d p : Nat) (E : Ey) (ts : List Tk) (ps : List ByteArray) (end' deep : Int) : CplxC d p E ts ps end' deep (cplxP d ts ps end') := by
  intro w st i h hi r hr
  exact ecomplex_any (fun w st i h hi r hr => ecompound_any (simpleC_plain d p E ts ps _ deep) h i hi r hr) h i hi r hr
def typeF (s : ByteArray) : Flat := ⟨1, 0, ⟨#[]⟩, s, 0, ⟨#[]⟩, false, 0, 0, 0⟩
def listAB : List (Xm 0) := [[(0, [(typeF ⟨#[97]⟩, ())]), (2, [(typeF ⟨#[98]⟩, ())])]]
theorem toks_ab : toksF [97, 32, 62, 32, 98] = [⟨1, 0, 1, [97], [], false⟩, ⟨13, 1, 2, [], [], false⟩, ⟨9, 2, 3, [62], [], false⟩, ⟨13, 3, 4, [], [], false⟩, ⟨1, 4, 5, [98], [], false⟩, ⟨0, 5, 5, [], [], false⟩] := by kernel_rfl
theorem list_ab : listGo (cplxP 0 (toksF [97, 32, 62, 32, 98]) [] 0) (toksF [97, 32, 62, 32, 98]) 0 ((toksF [97, 32, 62, 32, 98]).length + 10) 0 ⟨0, 0, 0, false⟩ [] = some (listAB, 5, ⟨0, 0, 0, false⟩) := by kernel_rfl
def nm0 : Nm := ⟨false, ⟨#[]⟩, [], []⟩
def nmv0 : NmV := ⟨none, 0, 0, none, 0, 0⟩
theorem nm0_at (w : World) (ok : Nat → Prop) : NmAt ok w nmv0 nm0 := ⟨⟨rfl, Nat.le_refl _, ⟨by unfold maxLen; decide, by decide⟩, .inl rfl⟩, ⟨rfl, Nat.le_refl _, ⟨by unfold maxLen; decide, by decide⟩, .inl rfl⟩⟩
theorem nm0_ok : NmOk nm0 := ⟨Nat.zero_le _, (fun s h => by cases h), (fun s h => by cases h)⟩
theorem nm0_b : namesB nm0 = true := by kernel_rfl
theorem chars_ab : charsF [97, 32, 62, 32, 98] = [97, 32, 62, 32, 98] := by kernel_rfl
theorem chars_ab2 : prepF (charsF [97, 32, 62, 32, 98]) = [97, 32, 62, 32, 98] := by kernel_rfl
theorem chars_ab64 : I64 (charsF [97, 32, 62, 32, 98]) := by rw [chars_ab]; intro z hz; simp at hz; omega
theorem plain_ab : PlainL [97, 32, 62, 32, 98] := by intro c hc; simp at hc; rcases hc with rfl | rfl | rfl | rfl | rfl <;> decide
theorem esel_ab {w : World} {ba : Option Addr} {bc : Nat} (hz : Reads w .u8 ba bc [97, 32, 62, 32, 98]) :
    Calls Tryz.prog 12 #[.slice ba 5 bc, .agg #[.bool false, .string ⟨#[]⟩, .slice none 0 0, .slice none 0 0]] w (SelPost listAB w) :=
  esel_any (d := 0) (nm := nm0) (N := nmv0) (fun w' hb => rread_plain ba 5 bc [97, 32, 62, 32, 98] [97, 32, 62, 32, 98] w' rfl (hz.later hb) (by intro z hz; simp at hz; omega) (by decide) (by decide) chars_ab64 chars_ab2 plain_ab (by simp) (by decide)) rfl (nm0_at _ _) nm0_ok nm0_b 5 (by rw [toks_ab]; rfl)
    (by rw [toks_ab]; intro i t h; match i, h with
      | 0, h => cases h; decide
      | 1, h => cases h; decide
      | 2, h => cases h; decide
      | 3, h => cases h; decide
      | 4, h => cases h; decide
      | 5, h => cases h; decide
      | i + 6, h => simp at h)
    (by rw [toks_ab]; decide) (fun p E => cplxP_ok 0 p E _ _ 0 1) listAB 5 ⟨0, 0, 0, false⟩ list_ab rfl rfl
end
end Go.Proofs.YtcfhggdiccilaaaGreat
