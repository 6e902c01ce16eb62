/- Texts of mine in one: Bp8. -/
import Derived.Test.YtelbjnanpmdnnaaQ25
import Derived.Test.YtelbjnanpmdnnaaQ26
namespace Go.Proofs.Ytelbjnanpmdnnaa
section
open Go.RowKit
set_option linter.unusedVariables false
set_option linter.unusedSimpArgs false
theorem own_weak {w : World} {base base' : Nat} {e : TypeId} {sz : Nat} {v : Value} {n : Nat} {vs : List Value} (h : w.ownsRow base e sz v n vs) (hb : base' ≤ base) : w.ownsRow base' e sz v n vs := by
  obtain ⟨hl, h0 | ⟨g, cap, cur, hv, hg, hc, h1, h2, h3, h4⟩⟩ := h
  · exact ⟨hl, .inl h0⟩
  · exact ⟨hl, .inr ⟨g, cap, cur, hv, by omega, hc, h1, h2, h3, h4⟩⟩
theorem ks_own {w : World} {base : Nat} {e : TypeId} {v : Value} {zs : List Int} (h : w.ownsRow base e 1 v zs.length (zs.map (Value.int .i64))) :
    ∃ a cap, v = .slice a zs.length cap ∧ Reads w .i64 a cap zs ∧ ∀ b off, a = some ⟨b, off, none⟩ → b < w.heap.size := by
  obtain ⟨a, cap, hv, hr⟩ := Reads.of_owns h
  refine ⟨a, cap, hv, hr, fun b off e => ?_⟩
  subst e
  exact (h.lt b (by rw [hv]; rfl)).2
theorem below_p {w0 w w' : World} {p : Nat} (h : Below w0.heap.size w0 w) (g : w.grownBy w' (some p)) (hp : w0.heap.size ≤ p) : Below w0.heap.size w0 w' := h.grown g h.size (fun k hk => by injection hk with hk; omega)
theorem KsAt.grownO {w w' : World} {p : Nat} {row : Option Nat} {a : Option Addr} {c : Nat} {ks : List Int} (h : KsAt w p a c ks) (hg : w.grownBy w' row) (hr : ∀ b, row = some b → (∀ b' off, a = some ⟨b', off, none⟩ → b' ≠ b)) : KsAt w' p a c ks := by
  obtain ⟨⟨h1, h2, h3⟩, h4⟩ := h
  refine ⟨⟨h1, h2, ?_⟩, fun b off e => ⟨(h4 b off e).1, Nat.lt_of_lt_of_le (h4 b off e).2 hg.size⟩⟩
  rcases h3 with h3 | ⟨b, off, rfl, hat⟩
  · exact .inl h3
  · exact .inr ⟨b, off, rfl, Nat.lt_of_lt_of_le hat.1 hg.size, fun j hj => (cell_blk (hg.block b hat.1 (fun e => hr b e.symm b off rfl rfl))).trans (hat.2 j hj)⟩
def gapK (top : Bool) : List Int := if top = true then [13, 14, 15] else [13]
theorem gapK_in (top : Bool) (k : Int) : inK (gapK top) k = gapB top k := by
  cases top with
  | false => show ([13] : List Int).contains k = _; unfold gapB; simp
  | true =>
    show ([13, 14, 15] : List Int).contains k = _
    unfold gapB
    by_cases h1 : k = 13 <;> by_cases h2 : k = 14 <;> by_cases h3 : k = 15 <;> simp [h1, h2, h3]
theorem rules_over (ts : List Tk) (E : Nat) (top : Bool) : ∀ (n j : Nat), E - j ≤ n → rulesF ts E top j = rulesF ts E top (overF ts (inK (gapK top)) E j) := by
  intro n
  induction n with
  | zero => intro j h; rw [overF_step, if_neg (by omega)]
  | succ n ih =>
    intro j h
    rw [overF_step]
    by_cases hg : j < E ∧ inK (gapK top) (kdA ts j) = true
    · rw [if_pos hg, rulesF_step, if_pos hg.1, if_pos (by rw [← gapK_in]; exact hg.2)]
      exact ih (j + 1) (by omega)
    · rw [if_neg hg]
theorem body_qual (ts : List Tk) (E j : Nat) : (if scanF ts (isK 23) E j < E then qualF ts E j = bodyF ts [23] E j ∧ (bodyF ts [23] E j).1.has = true else (bodyF ts [23] E j).2 = scanF ts (isK 23) E j ∧ (bodyF ts [23] E j).1.has = false) := by
  have hc : scanF ts (inK [23]) E j = scanF ts (isK 23) E j := scanF_congr ts _ _ E (fun k => by unfold inK isK; simp) _
  have hst := scanF_stop ts (isK 23) E _ j (Nat.le_refl _)
  unfold qualF bodyF
  rw [hc]
  generalize scanF ts (isK 23) E j = K at *
  by_cases h : K < E
  · have h23 := isK_iff.1 (hst h)
    rw [if_pos h, if_pos ⟨h, h23⟩]
    exact ⟨rfl, rfl⟩
  · rw [if_neg h, if_neg (fun hh => h hh.1)]
    exact ⟨rfl, rfl⟩
theorem rules_rule (ts : List Tk) (E : Nat) (top : Bool) (j : Nat) (hj : j < E) (hg : inK (gapK top) (kdA ts j) = false) :
    rulesF ts E top j = (if ruleB ts E j = true then [(ruleF ts E j).1] else []) ++ rulesF ts E top (ruleF ts E j).2 := by
  rw [rulesF_step, if_pos hj, if_neg (by rw [← gapK_in, hg]; simp)]
  unfold ruleB ruleF
  by_cases h3 : kdA ts j = 3
  · rw [if_pos h3, if_pos h3, if_pos h3, if_pos rfl]; rfl
  · rw [if_neg h3, if_neg h3, if_neg h3]
    have hq := body_qual ts E j
    by_cases hK : scanF ts (isK 23) E j < E
    · rw [if_pos hK] at hq ⊢
      rw [hq.1, hq.2, if_pos rfl]; rfl
    · rw [if_neg hK] at hq ⊢
      rw [hq.2, hq.1, if_neg (by simp)]
      have : rulesF ts E top (scanF ts (isK 23) E j) = [] := by rw [rulesF_step, if_neg hK]
      rw [this]; rfl
theorem ruleF_bounds (ts : List Tk) (E j : Nat) (hj : j < E) : j ≤ (ruleF ts E j).2 ∧ (ruleF ts E j).2 ≤ E ∧ (ruleB ts E j = true → j < (ruleF ts E j).2) ∧ (j < (ruleF ts E j).2) := by
  unfold ruleF ruleB
  by_cases h3 : kdA ts j = 3
  · rw [if_pos h3, if_pos h3]
    have := atruleF_bounds ts E j hj
    exact ⟨by omega, this.2, fun _ => this.1, this.1⟩
  · rw [if_neg h3, if_neg h3]
    have h1 := bodyF_bounds ts [23] E j (by omega)
    have hq := body_qual ts E j
    have hs := scanF_bounds ts (isK 23) E j (by omega)
    by_cases hK : scanF ts (isK 23) E j < E
    · rw [if_pos hK] at hq
      have := qualF_bounds ts E j hK (by omega)
      rw [hq.1] at this
      exact ⟨h1.1, h1.2, fun _ => this.1, this.1⟩
    · rw [if_neg hK] at hq
      exact ⟨h1.1, h1.2, (fun h => (by rw [hq.2] at h; cases h)), by rw [hq.1]; omega⟩
set_option maxRecDepth 100000 in
set_option maxHeartbeats 16000000 in
theorem brules_any {ts : List Tk} {b n cap : Nat} {w : World} (f t : Int) (top : Bool) (a E : Nat) (hT : TkRow w b n ts) (hcap : n ≤ cap) (hc2 : cap ≤ 9223372036854775807) (hn : n ≤ 1000000) (hs : ∀ j, (txA ts j).size ≤ 1000000) (ha : (a : Int) = max f 0) (ha2 : (a : Int) ≤ 9223372036854775807) (hE : endF ts (min t n).toNat a = E) :
    Calls Try.prog 9 #[.slice (some ⟨b, 0, none⟩) n cap, .int .i64 f, .int .i64 t, .bool top] w (RlsPost (rulesF ts E top a) w) := by
  obtain ⟨i0, hi, hz0, hz1, hz2⟩ := info_parts Try.infoRule
  have hge : a ≤ E := by rw [← hE]; exact endF_ge _ _ _
  have hle : E ≤ max a n := by have := endF_le ts (min t n).toNat a; omega
  have cN := fun (w' : World) (h : TkRow w' b n ts) => bnew_any (w := w') f t a h hcap hc2 hn ha ha2 E hE
  have HT := Lib.hid hT
  have hbw := hT.lt
  generalize hR : rulesF ts E top a = R
  have HR := Lib.hid hR
  clear hR hT hE ha
  have hb1 := (Below.refl w.heap.size w).alloc (Nat.le_refl _) (.cells #[.int .i64 13] 3)
  have hown : (w.alloc (.cells #[.int .i64 13] 3)).ownsRow w.heap.size 3 1 (.slice (some ⟨w.heap.size, 0, none⟩) 1 1) 1 [.int .i64 13] :=
    ⟨by simp, .inr ⟨w.heap.size, 1, #[.int .i64 13], rfl, Nat.le_refl _, heap_alloc_new w _, Nat.le_refl _, by simp [maxLen], rfl, rfl⟩⟩
  cases top with
  | false =>
    obtain ⟨ak, ck, hv, hr, hbk⟩ := ks_own (zs := [13]) hown
    injection hv with hv1 hv2 hv3
    subst hv1 hv3
    generalize hW : w.alloc (.cells #[.int .i64 13] 3) = w1 at *
    have HKR := Lib.hid hr
    have HKB := Lib.hid hbk
    have HB1 := Lib.hid hb1
    have hsz1 : w.heap.size < w1.heap.size := hbk w.heap.size 0 rfl
    have HW := Lib.hid hW
    clear hown hr hbk hW hb1 hv2
    go_enter Try.func9, Try.ntmps9
    go_upto_region 5 with (fail)
    rw [HW.out]
    clear HW
    go_wp2_with fail
    refine (cN _ (HT.out.later HB1.out (by omega))).mono ?_
    rintro e2 w2 ⟨p, rfl, hrd, hb2, hpl⟩
    have HK2 := Lib.hid (show KsAt w2 p _ _ [13] from ⟨HKR.out.later hb2, fun b' off' e => by have := HKB.out b' off' e; have := hrd.lp; have := hb2.size; omega⟩)
    have HKL := Lib.hid (fun b' off' e => Nat.lt_of_lt_of_le (HKB.out b' off' e) hb2.size)
    have HB2 := Lib.hid (HB1.out.trans (hb2.mono HB1.out.size))
    have H2 := Lib.hid hrd
    have hlb := hrd.lb
    have hlp := hrd.lp
    have hw1 := HB1.out.size
    have hw2 := hb2.size
    generalize w1.heap.size = B at *
    generalize hm : min t (n : Int) = mt at *
    clear hrd hb2 hm HKR HKB HB1 cN HT
    have own0 := World.ownsRow_nil w2 w2.heap.size 32 7
    go_wp2_with fail
    go_loopw [10] (fun v wr => ∃ (j : Nat) (acc : List Rl), Hid (Rdr wr B p b n cap ts mt E j) ∧ Hid (KsAt wr p (some ⟨w.heap.size, 0, none⟩) 1 [13]) ∧ wr.ownsRow w2.heap.size 32 7 v acc.length (acc.flatMap rlCells) ∧ Hid (acc ++ rulesF ts E false j = R) ∧ a ≤ j ∧ j ≤ E ∧ acc.length ≤ j - a ∧ Hid (Below w.heap.size w wr) ∧ Hid (w2.grownBy wr (some p)))
      (fun _ wr => E - placeIn wr p)
    case atStart => exact ⟨a, [], H2, HK2, own0, HR, by omega, by omega, by simp, HB2, Lib.hid (World.grownBy.refl _ _)⟩
    case round =>
      obtain ⟨j, acc, H, HK, hown, hG, haj, hjE, hal, HB, HG⟩ := hrel
      have hplc := Lib.hid H.out.place
      have cP := bpass_any (some ⟨w.heap.size, 0, none⟩) 1 1 [13] H.out rfl HK.out.1 (fun b off e => (HK.out.2 b off e).1)
      have hov := rules_over ts E false _ j (Nat.le_refl _)
      have hob := overF_bounds ts (inK [13]) E _ j (Nat.le_refl _)
      rw [show gapK false = [13] from rfl] at hov
      have HG2 : Hid (acc ++ rulesF ts E false (overF ts (inK [13]) E j) = R) := Lib.hid (by rw [← hov]; exact hG.out)
      clear hov hG
      generalize overF ts (inK [13]) E j = j1 at *
      obtain ⟨ho1, ho2, ho3⟩ := hob
      have HO3 := Lib.hid ho3
      clear ho3
      have hltv := fun k hk => hown.lt k hk
      by_cases hj1 : j1 < E
      · rw [decide_eq_true hj1] at cP
        go_wp2_with fail
        refine cP.mono ?_
        rintro e3 w3 ⟨rfl, h3, g3⟩
        have H3 := Lib.hid h3
        have hown3 := hown.kept g3 (.inr (fun e => by have := (hltv p e).1; omega))
        have HK3 := Lib.hid (HK.out.grownB g3 (.inl rfl))
        have HB3 := Lib.hid (below_p HB.out g3 (by omega))
        have HG3 := Lib.hid (grown_trans HG.out g3)
        clear cP h3 g3 hown H HK HB HG
        have hrr := rules_rule ts E false j1 hj1 (HO3.out hj1)
        have hrb := ruleF_bounds ts E j1 hj1
        have HG4 : Hid (acc ++ ((if ruleB ts E j1 = true then [(ruleF ts E j1).1] else []) ++ rulesF ts E false (ruleF ts E j1).2) = R) := Lib.hid (by rw [← hrr]; exact HG2.out)
        have cR := brule_any H3.out hj1 (hs j1)
        clear hrr HG2 HO3
        generalize ruleF ts E j1 = Y at *
        generalize ruleB ts E j1 = ok at *
        obtain ⟨⟨x0, x1, x2, x3, x4, x5, x6⟩, j2⟩ := Y
        unfold RuGo rlCells at cR
        dsimp only at cR hrb
        go_wp2_with fail
        refine cR.mono ?_
        rintro e4 w4 ⟨rfl, h4, g4⟩
        have hlt3 := fun k hk => hown3.lt k hk
        have hown4 := hown3.kept g4 (.inr (fun e => by have := (hlt3 p e).1; omega))
        have H4 := Lib.hid h4
        have HK4 := Lib.hid (HK3.out.grownB g4 (.inl rfl))
        have HB4 := Lib.hid (below_p HB3.out g4 (by omega))
        have HG5 := Lib.hid (grown_trans HG3.out g4)
        clear cR h4 g4 hown3 H3 HK3 HB3 HG3
        go_upto_region 8 with (fail)
        have o5 := (.cells [.bool x0, .string x1, .int .i64 x2, .int .i64 x3, .bool x4, .int .i64 x5, .int .i64 x6].toArray 32 : Obj)
        have B5 : Blk (w4.alloc (.cells [.bool x0, .string x1, .int .i64 x2, .int .i64 x3, .bool x4, .int .i64 x5, .int .i64 x6].toArray 32)) w4.heap.size [.bool x0, .string x1, .int .i64 x2, .int .i64 x3, .bool x4, .int .i64 x5, .int .i64 x6] 32 := Blk.alloc _ _
        have H5 := Lib.hid (H4.out.later ((Below.refl w4.heap.size w4).alloc (Nat.le_refl _) (.cells [.bool x0, .string x1, .int .i64 x2, .int .i64 x3, .bool x4, .int .i64 x5, .int .i64 x6].toArray 32)))
        have HK5 := Lib.hid (HK4.out.later ((Below.refl w4.heap.size w4).alloc (Nat.le_refl _) (.cells [.bool x0, .string x1, .int .i64 x2, .int .i64 x3, .bool x4, .int .i64 x5, .int .i64 x6].toArray 32)))
        have HB5 := Lib.hid (HB4.out.alloc HB4.out.size (.cells [.bool x0, .string x1, .int .i64 x2, .int .i64 x3, .bool x4, .int .i64 x5, .int .i64 x6].toArray 32))
        have HG6 := Lib.hid (grown_trans HG5.out (World.grownBy_alloc w4 (.cells [.bool x0, .string x1, .int .i64 x2, .int .i64 x3, .bool x4, .int .i64 x5, .int .i64 x6].toArray 32) (some p)))
        have hown5 := hown4.alloc (.cells [.bool x0, .string x1, .int .i64 x2, .int .i64 x3, .bool x4, .int .i64 x5, .int .i64 x6].toArray 32)
        have hs4 := HG5.out.size
        generalize w4.alloc (.cells [.bool x0, .string x1, .int .i64 x2, .int .i64 x3, .bool x4, .int .i64 x5, .int .i64 x6].toArray 32) = w5 at *
        generalize w4.heap.size = q at *
        clear H4 HK4 HB4 HG5 hown4 o5
        have c0 := B5.cell 0 _ rfl
        have c1 := B5.cell 1 _ rfl
        have c2 := B5.cell 2 _ rfl
        have c3 := B5.cell 3 _ rfl
        have c4 := B5.cell 4 _ rfl
        have c5 := B5.cell 5 _ rfl
        have c6 := B5.cell 6 _ rfl
        have hpl5 := Lib.hid H5.out.place
        cases ok with
        | false =>
          have HG7 : Hid (acc ++ rulesF ts E false j2 = R) := Lib.hid (by rw [← HG4.out, if_neg (show ¬ (false = true) by simp)]; rfl)
          clear HG4
          go_wp2
          go_roundw
          case rel => exact ⟨j2, acc, H5, HK5, hown5, HG7, by omega, by omega, by omega, HB5, HG6⟩
          case measure => rw [hpl5.out, hplc.out]; omega
        | true =>
          have HG7 : Hid (acc ++ ([(Rl.mk x0 x1 x2 x3 x4 x5 x6)] ++ rulesF ts E false j2) = R) := Lib.hid (by rw [← HG4.out, if_pos (show true = true from rfl)])
          clear HG4
          have hA : ∀ o : Obj, (w5.alloc o).heap.size = w5.heap.size + 1 := fun o => by simp
          have hB := Blk.alloc (w := w5) (rlCells (Rl.mk x0 x1 x2 x3 x4 x5 x6)) 32
          have hnews : ∀ q u, (rlCells (Rl.mk x0 x1 x2 x3 x4 x5 x6))[q]? = some u → (w5.alloc (.cells (rlCells (Rl.mk x0 x1 x2 x3 x4 x5 x6)).toArray 32)).cell? ((⟨w5.heap.size, 0, none⟩ : Addr).add q) = some u := fun q u hu => by
            have h0 := hB.cell q u hu
            rw [← h0]; congr 1; unfold Addr.add; simp <;> (intro h; exact h.symm)
          have hown6 := hown5.alloc (.cells (rlCells (Rl.mk x0 x1 x2 x3 x4 x5 x6)).toArray 32)
          have H6 := Lib.hid (H5.out.later ((Below.refl w5.heap.size w5).alloc (Nat.le_refl _) (.cells (rlCells (Rl.mk x0 x1 x2 x3 x4 x5 x6)).toArray 32)))
          have HK6 := Lib.hid (HK5.out.later ((Below.refl w5.heap.size w5).alloc (Nat.le_refl _) (.cells (rlCells (Rl.mk x0 x1 x2 x3 x4 x5 x6)).toArray 32)))
          have HB6 := Lib.hid (HB5.out.alloc HB5.out.size (.cells (rlCells (Rl.mk x0 x1 x2 x3 x4 x5 x6)).toArray 32))
          have HG8 := Lib.hid (grown_trans HG6.out (World.grownBy_alloc w5 (.cells (rlCells (Rl.mk x0 x1 x2 x3 x4 x5 x6)).toArray 32) (some p)))
          have hone := rl_cells (Rl.mk x0 x1 x2 x3 x4 x5 x6)
          have hlA : (acc ++ [(Rl.mk x0 x1 x2 x3 x4 x5 x6)]).flatMap rlCells = acc.flatMap rlCells ++ rlCells (Rl.mk x0 x1 x2 x3 x4 x5 x6) := by simp
          have HLA := Lib.hid hlA
          have hsz5 := HG6.out.size
          have hlt5 := fun k hk => hown5.lt k hk
          clear hlA hB hown5 H5 HK5 HB5 HG6 hpl5
          unfold rlCells at hown6 H6 HK6 HB6 HG8 hnews hone
          dsimp only at hown6 H6 HK6 HB6 HG8 hnews hone
          go_wp2_with (at_builtin; refine wpList_append_own _ rfl _ _ 26 rfl w2.heap.size 32 i0 _ 7 64 Try.underlying26 hi hz0 hz1 hz2 rfl (by decide) _ acc.length _ rfl hown6 ⟨w5.heap.size, 0, none⟩ 1 1 [.bool x0, .string x1, .int .i64 x2, .int .i64 x3, .bool x4, .int .i64 x5, .int .i64 x6] rfl rfl hnews hone (by unfold maxLen; omega) (by omega) (by simp <;> omega) ?_; intro v' w7 hown7 hgrow7 _)
          have H7 := Lib.hid (H6.out.grown hgrow7 (fun e => by have := (hlt5 p e).1; omega) (fun e => by have := (hlt5 b e).1; omega))
          have HK7 := Lib.hid (HK6.out.grownO hgrow7 (fun k hk b' off e => by have := (hlt5 k hk).1; have := HKL.out b' off e; omega))
          have HB7 := Lib.hid (HB6.out.grown hgrow7 HB6.out.size (fun k hk => by have := (hlt5 k hk).1; omega))
          have HG9 := Lib.hid (grown_own HG8.out hgrow7 (fun k hk => (hlt5 k hk).1))
          have hpl7 := Lib.hid H7.out.place
          go_roundw
          case rel => exact ⟨j2, acc ++ [(Rl.mk x0 x1 x2 x3 x4 x5 x6)], H7, HK7, by rw [HLA.out, List.length_append]; exact hown7, Lib.hid (by rw [← HG7.out]; simp), by omega, by omega, by rw [List.length_append]; simp; omega, HB7, HG9⟩
          case measure => rw [hpl7.out, hplc.out]; omega
      · rw [decide_eq_false hj1] at cP
        have hRv : R = acc := by rw [← HG2.out, rulesF_step, if_neg hj1, List.append_nil]
        subst hRv
        clear HG2 HO3
        go_wp2_with fail
        refine cP.mono ?_
        rintro e3 w3 ⟨rfl, h3, g3⟩
        have hown3 := hown.kept g3 (.inr (fun e => by have := (hltv p e).1; omega))
        have HB3 := Lib.hid (below_p HB.out g3 (by omega))
        clear cP h3 g3 hown H HK HB HG
        go_wp2
        go_ret
        exact ⟨_, rfl, own_weak hown3 (by omega), HB3.out⟩
  | true =>
    obtain ⟨k0, hk0, kz0, kz1, kz2⟩ := info_parts Try.info3
    have hA0 : (w.alloc (.cells #[.int .i64 13] 3)).heap.size = w.heap.size + 1 := by simp
    have hnews0 : ∀ q u, ([.int .i64 14, .int .i64 15] : List Value)[q]? = some u → ((w.alloc (.cells #[.int .i64 13] 3)).alloc (.cells #[.int .i64 14, .int .i64 15] 3)).cell? ((⟨w.heap.size + 1, 0, none⟩ : Addr).add q) = some u := fun q u hu => by
      have h0 := (Blk.alloc (w := w.alloc (.cells #[.int .i64 13] 3)) [.int .i64 14, .int .i64 15] 3).cell q u hu
      rw [hA0] at h0
      rw [← h0]; congr 1; unfold Addr.add; simp <;> (intro h; exact h.symm)
    have hown0 := hown.alloc (.cells #[.int .i64 14, .int .i64 15] 3)
    have hb0 := hb1.alloc hb1.size (.cells #[.int .i64 14, .int .i64 15] 3)
    have hone0 : ∀ u ∈ ([.int .i64 14, .int .i64 15] : List Value), u.oneCell' = true := fun u hu => by simp at hu; rcases hu with rfl | rfl <;> rfl
    have hlt0 := fun k hk => hown.lt k hk
    have HB0 := Lib.hid hb0
    clear hown hb1 hb0 hA0
    go_enter Try.func9, Try.ntmps9
    go_upto_region 5 with (at_builtin; refine wpList_append_own _ rfl _ _ 43 rfl w.heap.size 3 k0 _ 1 8 Try.underlying43 hk0 kz0 kz1 kz2 rfl (by decide) _ 1 _ rfl hown0 ⟨w.heap.size + 1, 0, none⟩ 2 2 [.int .i64 14, .int .i64 15] rfl rfl hnews0 hone0 (by unfold maxLen; omega) (by omega) (by simp <;> omega) ?_; intro v' w1 hown1 hgrow1 _; have HB1 := Lib.hid (HB0.out.grown hgrow1 HB0.out.size (fun k hk => (hlt0 k hk).1)); obtain ⟨ak, ck, hv, hr, hbk⟩ := ks_own (zs := [13, 14, 15]) hown1; subst hv; have HKR := Lib.hid hr; have HKB := Lib.hid hbk; clear hown1 hgrow1 hr hbk hnews0 hown0 hone0 hlt0 HB0)
    have hsz1 : w.heap.size ≤ w1.heap.size := HB1.out.size
    go_wp2_with fail
    refine (cN _ (HT.out.later HB1.out (by omega))).mono ?_
    rintro e2 w2 ⟨p, rfl, hrd, hb2, hpl⟩
    have HK2 := Lib.hid (show KsAt w2 p _ _ [13, 14, 15] from ⟨HKR.out.later hb2, fun b' off' e => by have := HKB.out b' off' e; have := hrd.lp; have := hb2.size; omega⟩)
    have HKL := Lib.hid (fun b' off' e => Nat.lt_of_lt_of_le (HKB.out b' off' e) hb2.size)
    have HB2 := Lib.hid (HB1.out.trans (hb2.mono HB1.out.size))
    have H2 := Lib.hid hrd
    have hlb := hrd.lb
    have hlp := hrd.lp
    have hw1 := HB1.out.size
    have hw2 := hb2.size
    generalize w1.heap.size = B at *
    generalize hm : min t (n : Int) = mt at *
    clear hrd hb2 hm HKR HKB HB1 cN HT
    have own0 := World.ownsRow_nil w2 w2.heap.size 32 7
    go_wp2_with fail
    go_loopw [10] (fun v wr => ∃ (j : Nat) (acc : List Rl), Hid (Rdr wr B p b n cap ts mt E j) ∧ Hid (KsAt wr p ak ck [13, 14, 15]) ∧ wr.ownsRow w2.heap.size 32 7 v acc.length (acc.flatMap rlCells) ∧ Hid (acc ++ rulesF ts E true j = R) ∧ a ≤ j ∧ j ≤ E ∧ acc.length ≤ j - a ∧ Hid (Below w.heap.size w wr) ∧ Hid (w2.grownBy wr (some p)))
      (fun _ wr => E - placeIn wr p)
    case atStart => exact ⟨a, [], H2, HK2, own0, HR, by omega, by omega, by simp, HB2, Lib.hid (World.grownBy.refl _ _)⟩
    case round =>
      obtain ⟨j, acc, H, HK, hown, hG, haj, hjE, hal, HB, HG⟩ := hrel
      have hplc := Lib.hid H.out.place
      have cP := bpass_any ak 3 ck [13, 14, 15] H.out rfl HK.out.1 (fun b off e => (HK.out.2 b off e).1)
      have hov := rules_over ts E true _ j (Nat.le_refl _)
      have hob := overF_bounds ts (inK [13, 14, 15]) E _ j (Nat.le_refl _)
      rw [show gapK true = [13, 14, 15] from rfl] at hov
      have HG2 : Hid (acc ++ rulesF ts E true (overF ts (inK [13, 14, 15]) E j) = R) := Lib.hid (by rw [← hov]; exact hG.out)
      clear hov hG
      generalize overF ts (inK [13, 14, 15]) E j = j1 at *
      obtain ⟨ho1, ho2, ho3⟩ := hob
      have HO3 := Lib.hid ho3
      clear ho3
      have hltv := fun k hk => hown.lt k hk
      by_cases hj1 : j1 < E
      · rw [decide_eq_true hj1] at cP
        go_wp2_with fail
        refine cP.mono ?_
        rintro e3 w3 ⟨rfl, h3, g3⟩
        have H3 := Lib.hid h3
        have hown3 := hown.kept g3 (.inr (fun e => by have := (hltv p e).1; omega))
        have HK3 := Lib.hid (HK.out.grownB g3 (.inl rfl))
        have HB3 := Lib.hid (below_p HB.out g3 (by omega))
        have HG3 := Lib.hid (grown_trans HG.out g3)
        clear cP h3 g3 hown H HK HB HG
        have hrr := rules_rule ts E true j1 hj1 (HO3.out hj1)
        have hrb := ruleF_bounds ts E j1 hj1
        have HG4 : Hid (acc ++ ((if ruleB ts E j1 = true then [(ruleF ts E j1).1] else []) ++ rulesF ts E true (ruleF ts E j1).2) = R) := Lib.hid (by rw [← hrr]; exact HG2.out)
        have cR := brule_any H3.out hj1 (hs j1)
        clear hrr HG2 HO3
        generalize ruleF ts E j1 = Y at *
        generalize ruleB ts E j1 = ok at *
        obtain ⟨⟨x0, x1, x2, x3, x4, x5, x6⟩, j2⟩ := Y
        unfold RuGo rlCells at cR
        dsimp only at cR hrb
        go_wp2_with fail
        refine cR.mono ?_
        rintro e4 w4 ⟨rfl, h4, g4⟩
        have hlt3 := fun k hk => hown3.lt k hk
        have hown4 := hown3.kept g4 (.inr (fun e => by have := (hlt3 p e).1; omega))
        have H4 := Lib.hid h4
        have HK4 := Lib.hid (HK3.out.grownB g4 (.inl rfl))
        have HB4 := Lib.hid (below_p HB3.out g4 (by omega))
        have HG5 := Lib.hid (grown_trans HG3.out g4)
        clear cR h4 g4 hown3 H3 HK3 HB3 HG3
        go_upto_region 8 with (fail)
        have o5 := (.cells [.bool x0, .string x1, .int .i64 x2, .int .i64 x3, .bool x4, .int .i64 x5, .int .i64 x6].toArray 32 : Obj)
        have B5 : Blk (w4.alloc (.cells [.bool x0, .string x1, .int .i64 x2, .int .i64 x3, .bool x4, .int .i64 x5, .int .i64 x6].toArray 32)) w4.heap.size [.bool x0, .string x1, .int .i64 x2, .int .i64 x3, .bool x4, .int .i64 x5, .int .i64 x6] 32 := Blk.alloc _ _
        have H5 := Lib.hid (H4.out.later ((Below.refl w4.heap.size w4).alloc (Nat.le_refl _) (.cells [.bool x0, .string x1, .int .i64 x2, .int .i64 x3, .bool x4, .int .i64 x5, .int .i64 x6].toArray 32)))
        have HK5 := Lib.hid (HK4.out.later ((Below.refl w4.heap.size w4).alloc (Nat.le_refl _) (.cells [.bool x0, .string x1, .int .i64 x2, .int .i64 x3, .bool x4, .int .i64 x5, .int .i64 x6].toArray 32)))
        have HB5 := Lib.hid (HB4.out.alloc HB4.out.size (.cells [.bool x0, .string x1, .int .i64 x2, .int .i64 x3, .bool x4, .int .i64 x5, .int .i64 x6].toArray 32))
        have HG6 := Lib.hid (grown_trans HG5.out (World.grownBy_alloc w4 (.cells [.bool x0, .string x1, .int .i64 x2, .int .i64 x3, .bool x4, .int .i64 x5, .int .i64 x6].toArray 32) (some p)))
        have hown5 := hown4.alloc (.cells [.bool x0, .string x1, .int .i64 x2, .int .i64 x3, .bool x4, .int .i64 x5, .int .i64 x6].toArray 32)
        have hs4 := HG5.out.size
        generalize w4.alloc (.cells [.bool x0, .string x1, .int .i64 x2, .int .i64 x3, .bool x4, .int .i64 x5, .int .i64 x6].toArray 32) = w5 at *
        generalize w4.heap.size = q at *
        clear H4 HK4 HB4 HG5 hown4 o5
        have c0 := B5.cell 0 _ rfl
        have c1 := B5.cell 1 _ rfl
        have c2 := B5.cell 2 _ rfl
        have c3 := B5.cell 3 _ rfl
        have c4 := B5.cell 4 _ rfl
        have c5 := B5.cell 5 _ rfl
        have c6 := B5.cell 6 _ rfl
        have hpl5 := Lib.hid H5.out.place
        cases ok with
        | false =>
          have HG7 : Hid (acc ++ rulesF ts E true j2 = R) := Lib.hid (by rw [← HG4.out, if_neg (show ¬ (false = true) by simp)]; rfl)
          clear HG4
          go_wp2
          go_roundw
          case rel => exact ⟨j2, acc, H5, HK5, hown5, HG7, by omega, by omega, by omega, HB5, HG6⟩
          case measure => rw [hpl5.out, hplc.out]; omega
        | true =>
          have HG7 : Hid (acc ++ ([(Rl.mk x0 x1 x2 x3 x4 x5 x6)] ++ rulesF ts E true j2) = R) := Lib.hid (by rw [← HG4.out, if_pos (show true = true from rfl)])
          clear HG4
          have hA : ∀ o : Obj, (w5.alloc o).heap.size = w5.heap.size + 1 := fun o => by simp
          have hB := Blk.alloc (w := w5) (rlCells (Rl.mk x0 x1 x2 x3 x4 x5 x6)) 32
          have hnews : ∀ q u, (rlCells (Rl.mk x0 x1 x2 x3 x4 x5 x6))[q]? = some u → (w5.alloc (.cells (rlCells (Rl.mk x0 x1 x2 x3 x4 x5 x6)).toArray 32)).cell? ((⟨w5.heap.size, 0, none⟩ : Addr).add q) = some u := fun q u hu => by
            have h0 := hB.cell q u hu
            rw [← h0]; congr 1; unfold Addr.add; simp <;> (intro h; exact h.symm)
          have hown6 := hown5.alloc (.cells (rlCells (Rl.mk x0 x1 x2 x3 x4 x5 x6)).toArray 32)
          have H6 := Lib.hid (H5.out.later ((Below.refl w5.heap.size w5).alloc (Nat.le_refl _) (.cells (rlCells (Rl.mk x0 x1 x2 x3 x4 x5 x6)).toArray 32)))
          have HK6 := Lib.hid (HK5.out.later ((Below.refl w5.heap.size w5).alloc (Nat.le_refl _) (.cells (rlCells (Rl.mk x0 x1 x2 x3 x4 x5 x6)).toArray 32)))
          have HB6 := Lib.hid (HB5.out.alloc HB5.out.size (.cells (rlCells (Rl.mk x0 x1 x2 x3 x4 x5 x6)).toArray 32))
          have HG8 := Lib.hid (grown_trans HG6.out (World.grownBy_alloc w5 (.cells (rlCells (Rl.mk x0 x1 x2 x3 x4 x5 x6)).toArray 32) (some p)))
          have hone := rl_cells (Rl.mk x0 x1 x2 x3 x4 x5 x6)
          have hlA : (acc ++ [(Rl.mk x0 x1 x2 x3 x4 x5 x6)]).flatMap rlCells = acc.flatMap rlCells ++ rlCells (Rl.mk x0 x1 x2 x3 x4 x5 x6) := by simp
          have HLA := Lib.hid hlA
          have hsz5 := HG6.out.size
          have hlt5 := fun k hk => hown5.lt k hk
          clear hlA hB hown5 H5 HK5 HB5 HG6 hpl5
          unfold rlCells at hown6 H6 HK6 HB6 HG8 hnews hone
          dsimp only at hown6 H6 HK6 HB6 HG8 hnews hone
          go_wp2_with (at_builtin; refine wpList_append_own _ rfl _ _ 26 rfl w2.heap.size 32 i0 _ 7 64 Try.underlying26 hi hz0 hz1 hz2 rfl (by decide) _ acc.length _ rfl hown6 ⟨w5.heap.size, 0, none⟩ 1 1 [.bool x0, .string x1, .int .i64 x2, .int .i64 x3, .bool x4, .int .i64 x5, .int .i64 x6] rfl rfl hnews hone (by unfold maxLen; omega) (by omega) (by simp <;> omega) ?_; intro v' w7 hown7 hgrow7 _)
          have H7 := Lib.hid (H6.out.grown hgrow7 (fun e => by have := (hlt5 p e).1; omega) (fun e => by have := (hlt5 b e).1; omega))
          have HK7 := Lib.hid (HK6.out.grownO hgrow7 (fun k hk b' off e => by have := (hlt5 k hk).1; have := HKL.out b' off e; omega))
          have HB7 := Lib.hid (HB6.out.grown hgrow7 HB6.out.size (fun k hk => by have := (hlt5 k hk).1; omega))
          have HG9 := Lib.hid (grown_own HG8.out hgrow7 (fun k hk => (hlt5 k hk).1))
          have hpl7 := Lib.hid H7.out.place
          go_roundw
          case rel => exact ⟨j2, acc ++ [(Rl.mk x0 x1 x2 x3 x4 x5 x6)], H7, HK7, by rw [HLA.out, List.length_append]; exact hown7, Lib.hid (by rw [← HG7.out]; simp), by omega, by omega, by rw [List.length_append]; simp; omega, HB7, HG9⟩
          case measure => rw [hpl7.out, hplc.out]; omega
      · rw [decide_eq_false hj1] at cP
        have hRv : R = acc := by rw [← HG2.out, rulesF_step, if_neg hj1, List.append_nil]
        subst hRv
        clear HG2 HO3
        go_wp2_with fail
        refine cP.mono ?_
        rintro e3 w3 ⟨rfl, h3, g3⟩
        have hown3 := hown.kept g3 (.inr (fun e => by have := (hltv p e).1; omega))
        have HB3 := Lib.hid (below_p HB.out g3 (by omega))
        clear cP h3 g3 hown H HK HB HG
        go_wp2
        go_ret
        exact ⟨_, rfl, own_weak hown3 (by omega), HB3.out⟩
end
end Go.Proofs.Ytelbjnanpmdnnaa
