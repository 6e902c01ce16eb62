/- A list of selectors in its own memory written over, by the law: a walk. -/
import Derived.Test.YtfgnepbpfglepaaSm3
namespace Go.Proofs.Ytfgnepbpfglepaa
open Go.RowKit
set_option linter.unusedVariables false
set_option linter.unusedSimpArgs false

/-- All is as it was, but for what lies in a stretch of memory. -/
def FrS (lo hi : Nat) (w wr : World) : Prop := Below lo w wr ∧ wr.heap.size = w.heap.size ∧ ∀ b, hi ≤ b → wr.heap[b]? = w.heap[b]?
theorem FrS.refl (lo hi : Nat) (w : World) : FrS lo hi w w := ⟨Below.refl _ _, rfl, fun _ _ => rfl⟩
theorem FrS.old {lo hi : Nat} {w wr : World} (h : FrS lo hi w wr) {b : Nat} (hb : b < lo ∨ hi ≤ b) : wr.heap[b]? = w.heap[b]? := by
  rcases hb with hb | hb
  · exact h.1.block b hb
  · exact h.2.2 b hb
theorem FrS.then {lo hi lo' hi' : Nat} {w a b : World} (h : FrS lo hi w a) (k : FrS lo' hi' a b) (h1 : lo ≤ lo') (h2 : hi' ≤ hi) : FrS lo hi w b :=
  ⟨h.1.trans ⟨k.1.os, k.1.tape, k.1.output, k.1.size, fun i hi => k.1.block i (Nat.lt_of_lt_of_le hi h1)⟩, k.2.1.trans h.2.1, fun c hc => (k.2.2 c (Nat.le_trans h2 hc)).trans (h.2.2 c hc)⟩
theorem FrS.set {lo hi : Nat} {w wr : World} (h : FrS lo hi w wr) {g : Nat} (h1 : lo ≤ g) (h2 : g < hi) (o : Nat) (vs : List Value) : FrS lo hi w (setAll wr g o vs) :=
  ⟨setAll_below h1 vs o wr h.1, (setAll_size _ _ _).trans h.2.1, fun b hb => (setAll_old (by omega) _ _ _).trans (h.2.2 b hb)⟩
/-- What the call tells of lists of a depth: it writes in their stretch of memory alone. -/
def SpoilV (d : Nat) (x : Lx d) : Prop := ∀ (lo hi b n : Nat) (w : World), OwnL d w lo hi b n x → hi ≤ w.heap.size → Calls Try.prog 29 #[.slice (some ⟨b, 0, none⟩) n n] w fun e w' => e = .returned (.tuple #[]) ∧ FrS lo hi w w'
def zS : List Value := [.int .i64 99, .int .i64 0, .string ⟨#[]⟩, .string ⟨#[]⟩, .int .i64 0, .string ⟨#[]⟩, .bool false, .int .i64 0, .int .i64 0, .int .i64 0, .slice none 0 0]

set_option maxRecDepth 100000 in
set_option maxHeartbeats 4000000 in
theorem spoil_nil (a : Option Addr) (c : Nat) (w : World) : Calls Try.prog 29 #[.slice a 0 c] w fun e w' => e = .returned (.tuple #[]) ∧ w' = w := by
  go_enter Try.func29, Try.ntmps29
  go_wp2_with fail
  refine wp_loop_rounds 1 ?_
  rw [rounds_succ]
  go_wp2
  go_end0
  exact ⟨rfl, rfl⟩

/-- What is left of a row's parts, from one of them on: each still lies in its stretch. -/
def LvX (d : Nat) (w0 : World) (lo hi b n : Nat) (cs : List Value) (f : Nat → Nat) (xs : List (List (Int × List (Flat × Lx d)))) (k : Nat) (w : World) : Prop :=
  Blk w b cs 79 ∧ FrS lo hi w0 w ∧ ∀ i x, k ≤ i → xs[i]? = some x → OwnX (OwnL d w) w cs (i * 1) (f i) (f (i + 1)) x
def LvK (d : Nat) (b n L : Nat) (f : Nat → Nat) (xs : List (Int × List (Flat × Lx d))) (cs : List Value) (k : Nat) (w : World) : Prop :=
  Blk w b cs 95 ∧ cs.length = L ∧ ∀ i x, k ≤ i → xs[i]? = some x → OwnK (OwnL d w) w cs (i * 2) (f i) (f (i + 1)) x
def LvS (d : Nat) (b n L : Nat) (f : Nat → Nat) (xs : List (Flat × Lx d)) (cs : List Value) (k : Nat) (w : World) : Prop :=
  Blk w b cs 86 ∧ cs.length = L ∧ ∀ i x, k ≤ i → xs[i]? = some x → OwnS (OwnL d w) cs (i * 11) (f i) (f (i + 1)) x
theorem LvX.step {d : Nat} {w0 w w' : World} {lo hi b n k p q : Nat} {cs : List Value} {f : Nat → Nat} {xs : List (List (Int × List (Flat × Lx d)))} (h : LvX d w0 lo hi b n cs f xs k w) (hn : n = xs.length) (hm : ∀ i, i < n → f i ≤ f (i + 1)) (hlo : lo ≤ b ∧ b < f 0 ∧ f n ≤ hi)
    (hf : FrS p q w w') (hk : 0 < k ∧ k ≤ n) (h1 : f (k - 1) ≤ p) (h2 : q ≤ f k) : LvX d w0 lo hi b n cs f xs k w' := by
  have h3 := steps_le hm 0 (k - 1) (Nat.zero_le _) (by omega)
  have h4 := steps_le hm k n hk.2 (Nat.le_refl _)
  refine ⟨(hf.old (.inl (by omega))).trans h.1, h.2.1.then hf (by omega) (by omega), fun i x hi hx => ?_⟩
  have hin := (List.getElem?_eq_some_iff.1 hx).1
  have h5 := steps_le hm k i hi (by omega)
  exact stableX d w w' cs cs _ _ _ x (fun _ _ _ => rfl) (fun bl hb1 hb2 => hf.old (.inr (by omega))) (h.2.2 i x hi hx)
theorem LvK.step {d : Nat} {w w' : World} {b n L k p q : Nat} {cs : List Value} {f : Nat → Nat} {xs : List (Int × List (Flat × Lx d))} (h : LvK d b n L f xs cs k w) (hn : n = xs.length) (hm : ∀ i, i < n → f i ≤ f (i + 1)) (hlo : b < f 0)
    (hf : FrS p q w w') (hk : 0 < k ∧ k ≤ n) (h1 : f (k - 1) ≤ p) (h2 : q ≤ f k) : LvK d b n L f xs cs k w' := by
  have h3 := steps_le hm 0 (k - 1) (Nat.zero_le _) (by omega)
  refine ⟨(hf.old (.inl (by omega))).trans h.1, h.2.1, fun i x hi hx => ?_⟩
  have hin := (List.getElem?_eq_some_iff.1 hx).1
  have h5 := steps_le hm k i hi (by omega)
  exact stableK d w w' cs cs _ _ _ x (fun _ _ _ => rfl) (fun bl hb1 hb2 => hf.old (.inr (by omega))) (h.2.2 i x hi hx)
/-- A compound's number is written over. -/
theorem LvK.set {d : Nat} {w : World} {b n L k : Nat} {cs : List Value} {f : Nat → Nat} {xs : List (Int × List (Flat × Lx d))} (h : LvK d b n L f xs cs (k + 1) w) (hn : n = xs.length) (hm : ∀ i, i < n → f i ≤ f (i + 1)) (hlo : b < f 0) (v : Value) :
    LvK d b n L f xs (setsAll cs (k * 2) [v]) (k + 1) (setAll w b (k * 2) [v]) := by
  refine ⟨setAll_blk _ _ _ _ h.1, by rw [setsAll_len]; exact h.2.1, fun i x hi hx => ?_⟩
  have hin := (List.getElem?_eq_some_iff.1 hx).1
  have h5 := steps_le hm 0 i (Nat.zero_le _) (by omega)
  exact stableK d w _ cs _ _ _ _ x (fun j h1 h2 => setsAll_other _ _ _ (.inr (by simp; omega))) (fun bl hb1 hb2 => setAll_old (by omega) _ _ _) (h.2.2 i x hi hx)
theorem LvS.step {d : Nat} {w w' : World} {b n L k p q : Nat} {cs : List Value} {f : Nat → Nat} {xs : List (Flat × Lx d)} (h : LvS d b n L f xs cs k w) (hn : n = xs.length) (hm : ∀ i, i < n → f i ≤ f (i + 1)) (hlo : b < f 0)
    (hf : FrS p q w w') (hk : 0 < k ∧ k ≤ n) (h1 : f (k - 1) ≤ p) (h2 : q ≤ f k) : LvS d b n L f xs cs k w' := by
  have h3 := steps_le hm 0 (k - 1) (Nat.zero_le _) (by omega)
  refine ⟨(hf.old (.inl (by omega))).trans h.1, h.2.1, fun i x hi hx => ?_⟩
  have hin := (List.getElem?_eq_some_iff.1 hx).1
  have h5 := steps_le hm k i hi (by omega)
  exact stableS d w w' cs cs _ _ _ x (fun _ _ _ => rfl) (fun bl hb1 hb2 => hf.old (.inr (by omega))) (h.2.2 i x hi hx)
theorem LvS.set {d : Nat} {w : World} {b n L k : Nat} {cs : List Value} {f : Nat → Nat} {xs : List (Flat × Lx d)} (h : LvS d b n L f xs cs (k + 1) w) (hn : n = xs.length) (hm : ∀ i, i < n → f i ≤ f (i + 1)) (hlo : b < f 0) :
    LvS d b n L f xs (setsAll cs (k * 11) zS) (k + 1) (setAll w b (k * 11) zS) := by
  refine ⟨setAll_blk _ _ _ _ h.1, by rw [setsAll_len]; exact h.2.1, fun i x hi hx => ?_⟩
  have hin := (List.getElem?_eq_some_iff.1 hx).1
  have h5 := steps_le hm 0 i (Nat.zero_le _) (by omega)
  exact stableS d w _ cs _ _ _ _ x (fun j h1 h2 => setsAll_other _ _ _ (.inr (by show k * 11 + 11 ≤ j; omega))) (fun bl hb1 hb2 => setAll_old (by omega) _ _ _) (h.2.2 i x hi hx)

set_option maxRecDepth 100000 in
set_option maxHeartbeats 8000000 in
theorem spoil_step (d : Nat) (xs : List (List (Int × List (Flat × Lx d)))) (IH : ∀ (k : Nat) (x : List (Int × List (Flat × Lx d))), xs[k]? = some x → ∀ (i : Nat) (y : Int × List (Flat × Lx d)), x[i]? = some y → ∀ (j : Nat) (s : Flat × Lx d), y.2[j]? = some s → SpoilV d s.2)
    (lo hi b n : Nat) (w : World) (h : OwnL (d + 1) w lo hi b n xs) (hhw : hi ≤ w.heap.size) : Calls Try.prog 29 #[.slice (some ⟨b, 0, none⟩) n n] w fun e w' => e = .returned (.tuple #[]) ∧ FrS lo hi w w' := by
  obtain ⟨hn, hn2, cs, f, hB, hl, hlo, h0, hm, hhi, hq⟩ := h
  have hn' : n = xs.length := hn
  have HN := Lib.hid hn'
  have HIH := Lib.hid IH
  have HM := Lib.hid (show ∀ i, i < n → f i ≤ f (i + 1) from by rw [hn']; exact hm)
  have HH := Lib.hid (show lo ≤ b ∧ b < f 0 ∧ f n ≤ hi from ⟨hlo, h0, by rw [hn']; exact hhi⟩)
  have HW := Lib.hid hhw
  have HQ0 := Lib.hid (show LvX d w lo hi b n cs f xs 0 w from ⟨hB, FrS.refl _ _ _, fun i x _ hx => hq i x hx⟩)
  have hnm : n ≤ 9223372036854775807 := by omega
  clear hn hn' IH hlo h0 hhi hm hhw hq hB hl hn2
  go_enter Try.func29, Try.ntmps29
  go_wp2_with fail
  go_loopw [7] (fun i wr => ∃ k : Nat, k ≤ n ∧ i = .int .i64 k ∧ Hid (LvX d w lo hi b n cs f xs k wr)) (fun i _ => n - (intOf i).toNat)
  case atStart => exact ⟨0, Nat.zero_le _, rfl, HQ0⟩
  case round =>
    clear HQ0
    obtain ⟨k, hk, rfl, HQ⟩ := hrel
    by_cases hlt : k < n
    rotate_left
    · have hkI : ¬ (k : Int) < (n : Int) := by omega
      go_wp2
      go_end0
      exact ⟨rfl, HQ.out.2.1⟩
    obtain ⟨x, hxk⟩ : ∃ x, xs[k]? = some x := ⟨_, List.getElem?_eq_getElem (by rw [← HN.out]; exact hlt)⟩
    obtain ⟨b1, x0, hx2, cs1, f1, hB1, hl1, hlo1, h01, hm1, hhi1, hq1⟩ := HQ.out.2.2 k x (Nat.le_refl _) hxk
    obtain ⟨n1, hn1⟩ : ∃ n1, n1 = x.length := ⟨_, rfl⟩
    rw [← hn1] at x0 hx2 hhi1 hl1
    rw [Nat.mul_one] at x0
    have hkI : (0 : Int) ≤ (k : Int) := by omega
    have hkI2 : (k : Int) < (n : Int) := by omega
    have hmm1 : n1 ≤ 9223372036854775807 := by omega
    have HX0 := Lib.hid (show cs[k]? = some (.slice (some ⟨b1, 0, none⟩) n1 n1) from x0)
    have HXK := Lib.hid hxk
    have HN1 := Lib.hid hn1
    have HM1 := Lib.hid (show ∀ i, i < n1 → f1 i ≤ f1 (i + 1) from by rw [hn1]; exact hm1)
    have HH1 := Lib.hid (show f k ≤ b1 ∧ b1 < f1 0 ∧ f1 n1 ≤ f (k + 1) from ⟨hlo1, h01, hhi1⟩)
    have HL1 := Lib.hid hl1
    have HR0 := Lib.hid (show LvX d w lo hi b n cs f xs (k + 1) wr from ⟨HQ.out.1, HQ.out.2.1, fun i y hi hy => HQ.out.2.2 i y (by omega) hy⟩)
    have HQ1 := Lib.hid (show LvK d b1 n1 cs1.length f1 x cs1 0 wr from ⟨hB1, rfl, fun i y _ hy => hq1 i y hy⟩)
    have c0 := HQ.out.1.cell k _ HX0.out
    clear hxk x0 hx2 hB1 hl1 hlo1 h01 hm1 hhi1 hq1 hn1 HQ
    go_wp2_with fail
    clear c0
    go_loopw [16] (fun i w2 => ∃ (k1 : Nat) (cs1' : List Value), k1 ≤ n1 ∧ i = .int .i64 k1 ∧ Hid (LvX d w lo hi b n cs f xs (k + 1) w2) ∧ Hid (LvK d b1 n1 cs1.length f1 x cs1' k1 w2)) (fun i _ => n1 - (intOf i).toNat)
    case atStart => exact ⟨0, cs1, Nat.zero_le _, rfl, HR0, HQ1⟩
    case round =>
      clear HR0 HQ1
      obtain ⟨k1, cs1', hk1, rfl, HR, HQ⟩ := hrel
      have c0 := HR.out.1.cell k _ HX0.out
      by_cases hlt1 : k1 < n1
      rotate_left
      · have hkI3 : ¬ (k1 : Int) < (n1 : Int) := by omega
        go_wp2
        go_roundw
        case rel => exact ⟨k + 1, by omega, by go_num, HR⟩
        case measure => simp [intOf]; omega
      obtain ⟨y, hyk⟩ : ∃ y, x[k1]? = some y := ⟨_, List.getElem?_eq_getElem (by rw [← HN1.out]; exact hlt1)⟩
      obtain ⟨_, b2, y0, hy2, cs2, f2, hB2, hl2, hlo2, h02, hm2, hhi2, hq2⟩ := HQ.out.2.2 k1 y (Nat.le_refl _) hyk
      obtain ⟨n2, hn2⟩ : ∃ n2, n2 = y.2.length := ⟨_, rfl⟩
      rw [← hn2] at y0 hy2 hhi2 hl2
      have hkI3 : (0 : Int) ≤ (k1 : Int) := by omega
      have hkI4 : (k1 : Int) < (n1 : Int) := by omega
      have hmm2 : n2 ≤ 9223372036854775807 := by omega
      have HY0 := Lib.hid (show cs1'[k1 * 2 + 1]? = some (.slice (some ⟨b2, 0, none⟩) n2 n2) from y0)
      have HYK := Lib.hid hyk
      have HN2 := Lib.hid hn2
      have HM2 := Lib.hid (show ∀ i, i < n2 → f2 i ≤ f2 (i + 1) from by rw [hn2]; exact hm2)
      have HH2 := Lib.hid (show f1 k1 ≤ b2 ∧ b2 < f2 0 ∧ f2 n2 ≤ f1 (k1 + 1) from ⟨hlo2, h02, hhi2⟩)
      have HL2 := Lib.hid hl2
      have HCL := Lib.hid (show cs1'.length = n1 * 2 from HQ.out.2.1.trans HL1.out)
      have HR1 := Lib.hid (show LvK d b1 n1 cs1.length f1 x cs1' (k1 + 1) wr from ⟨HQ.out.1, HQ.out.2.1, fun i z hi hz => HQ.out.2.2 i z (by omega) hz⟩)
      have HQ2 := Lib.hid (show LvS d b2 n2 cs2.length f2 y.2 cs2 0 wr from ⟨hB2, rfl, fun i z _ hz => hq2 i z hz⟩)
      have c1 := HQ.out.1.cell (k1 * 2 + 1) _ HY0.out
      clear hyk y0 hy2 hB2 hl2 hlo2 h02 hm2 hhi2 hq2 hn2 HQ
      go_wp2_with fail
      clear c0 c1
      go_loopw [29] (fun i w3 => ∃ (k2 : Nat) (cs2' : List Value), k2 ≤ n2 ∧ i = .int .i64 k2 ∧ Hid (LvX d w lo hi b n cs f xs (k + 1) w3) ∧ Hid (LvK d b1 n1 cs1.length f1 x cs1' (k1 + 1) w3) ∧ Hid (LvS d b2 n2 cs2.length f2 y.2 cs2' k2 w3)) (fun i _ => n2 - (intOf i).toNat)
      case atStart => exact ⟨0, cs2, Nat.zero_le _, rfl, HR, HR1, HQ2⟩
      case round =>
        clear HR HR1 HQ2
        obtain ⟨k2, cs2', hk2, rfl, HR, HR1, HQ⟩ := hrel
        have c0 := HR.out.1.cell k _ HX0.out
        have c1 := HR1.out.1.cell (k1 * 2 + 1) _ HY0.out
        have hfk := steps_le HM1.out 0 k1 (Nat.zero_le _) (by omega)
        have hfk1 := steps_le HM1.out (k1 + 1) n1 (by omega) (Nat.le_refl _)
        have hgk := steps_le HM2.out 0 k2 (Nat.zero_le _) (by omega)
        have hmid := HM1.out k1 hlt1
        by_cases hlt2 : k2 < n2
        rotate_left
        · have hkI5 : ¬ (k2 : Int) < (n2 : Int) := by omega
          obtain ⟨o0, ho0⟩ : ∃ o, cs1'[k1 * 2]? = some o := ⟨_, List.getElem?_eq_getElem (by rw [HCL.out]; omega)⟩
          have d0 := HR1.out.1.cell (k1 * 2) _ ho0
          have g0 := HR1.out.1.frozen (k1 * 2)
          have hfr : FrS b1 (b1 + 1) wr (setAll wr b1 (k1 * 2) [.int .i64 77]) := (FrS.refl _ _ _).set (Nat.le_refl _) (Nat.lt_succ_self _) _ _
          have HR' := Lib.hid (HR.out.step HN.out HM.out HH.out hfr ⟨by omega, by omega⟩ (by show f k ≤ b1; exact HH1.out.1) (by have := HH1.out.2.1; have := HH1.out.2.2; omega))
          have HR1' := Lib.hid (HR1.out.set HN1.out HM1.out HH1.out.2.1 (.int .i64 77))
          clear hfr ho0 hfk hfk1 hgk hmid
          go_wp2
          go_roundw
          case rel => exact ⟨k1 + 1, _, by omega, by go_num, HR', HR1'⟩
          case measure => simp [intOf]; omega
        obtain ⟨s, hsk⟩ : ∃ s, y.2[k2]? = some s := ⟨_, List.getElem?_eq_getElem (by rw [← HN2.out]; exact hlt2)⟩
        obtain ⟨_, _, b3, n3, s10, hO⟩ := HQ.out.2.2 k2 s (Nat.le_refl _) hsk
        have hkI5 : (0 : Int) ≤ (k2 : Int) := by omega
        have hkI6 : (k2 : Int) < (n2 : Int) := by omega
        have hgk2 := steps_le HM2.out (k2 + 1) n2 (by omega) (Nat.le_refl _)
        have hmid2 := HM2.out k2 hlt2
        have hfk2 := steps_le HM.out (k + 1) n (by omega) (Nat.le_refl _)
        have HCL2 := Lib.hid (show cs2'.length = n2 * 11 from HQ.out.2.1.trans HL2.out)
        have hs10 : cs2'[k2 * 11 + 10]? = some (.slice (some ⟨b3, 0, none⟩) n3 n3) := s10
        have c2 := HQ.out.1.cell (k2 * 11 + 10) _ hs10
        have fS := HIH.out k x HXK.out k1 y HYK.out k2 s hsk (f2 k2) (f2 (k2 + 1)) b3 n3 wr hO (by have := HR.out.2.1.2.1; have := HW.out; have := HH.out.2.2; have := HH1.out.2.2; have := HH2.out.2.2; omega)
        have HQ' := Lib.hid (show LvS d b2 n2 cs2.length f2 y.2 cs2' (k2 + 1) wr from ⟨HQ.out.1, HQ.out.2.1, fun i z hi hz => HQ.out.2.2 i z (by omega) hz⟩)
        clear hsk s10 hs10 hO HQ
        obtain ⟨o0, ho0⟩ : ∃ o, cs2'[k2 * 11]? = some o := ⟨_, List.getElem?_eq_getElem (by rw [HCL2.out]; omega)⟩
        have HO0 := Lib.hid ho0
        clear ho0
        obtain ⟨o1, ho1⟩ : ∃ o, cs2'[k2 * 11 + 1]? = some o := ⟨_, List.getElem?_eq_getElem (by rw [HCL2.out]; omega)⟩
        have HO1 := Lib.hid ho1
        clear ho1
        obtain ⟨o2, ho2⟩ : ∃ o, cs2'[k2 * 11 + 2]? = some o := ⟨_, List.getElem?_eq_getElem (by rw [HCL2.out]; omega)⟩
        have HO2 := Lib.hid ho2
        clear ho2
        obtain ⟨o3, ho3⟩ : ∃ o, cs2'[k2 * 11 + 3]? = some o := ⟨_, List.getElem?_eq_getElem (by rw [HCL2.out]; omega)⟩
        have HO3 := Lib.hid ho3
        clear ho3
        obtain ⟨o4, ho4⟩ : ∃ o, cs2'[k2 * 11 + 4]? = some o := ⟨_, List.getElem?_eq_getElem (by rw [HCL2.out]; omega)⟩
        have HO4 := Lib.hid ho4
        clear ho4
        obtain ⟨o5, ho5⟩ : ∃ o, cs2'[k2 * 11 + 5]? = some o := ⟨_, List.getElem?_eq_getElem (by rw [HCL2.out]; omega)⟩
        have HO5 := Lib.hid ho5
        clear ho5
        obtain ⟨o6, ho6⟩ : ∃ o, cs2'[k2 * 11 + 6]? = some o := ⟨_, List.getElem?_eq_getElem (by rw [HCL2.out]; omega)⟩
        have HO6 := Lib.hid ho6
        clear ho6
        obtain ⟨o7, ho7⟩ : ∃ o, cs2'[k2 * 11 + 7]? = some o := ⟨_, List.getElem?_eq_getElem (by rw [HCL2.out]; omega)⟩
        have HO7 := Lib.hid ho7
        clear ho7
        obtain ⟨o8, ho8⟩ : ∃ o, cs2'[k2 * 11 + 8]? = some o := ⟨_, List.getElem?_eq_getElem (by rw [HCL2.out]; omega)⟩
        have HO8 := Lib.hid ho8
        clear ho8
        obtain ⟨o9, ho9⟩ : ∃ o, cs2'[k2 * 11 + 9]? = some o := ⟨_, List.getElem?_eq_getElem (by rw [HCL2.out]; omega)⟩
        have HO9 := Lib.hid ho9
        clear ho9
        obtain ⟨o10, ho10⟩ : ∃ o, cs2'[k2 * 11 + 10]? = some o := ⟨_, List.getElem?_eq_getElem (by rw [HCL2.out]; omega)⟩
        have HO10 := Lib.hid ho10
        clear ho10
        go_wp2_with (go_at_call 29; (with_reducible refine fS.mono ?_); rintro e w4 ⟨rfl, hf4⟩; have S4 := HQ'.out.step HN2.out HM2.out HH2.out.2.1 hf4 ⟨by omega, by omega⟩ (Nat.le_refl _) (Nat.le_refl _); have K4 := HR1.out.step HN1.out HM1.out HH1.out.2.1 hf4 ⟨by omega, by omega⟩ (by show f1 k1 ≤ f2 k2; have := HH2.out; omega) (by have := HH2.out; omega); have X4 := HR.out.step HN.out HM.out HH.out hf4 ⟨by omega, by omega⟩ (by show f k ≤ f2 k2; have := HH1.out; have := HH2.out; omega) (by have := HH1.out; have := HH2.out; omega); have e0 := X4.1.cell k _ HX0.out; have e1 := K4.1.cell (k1 * 2 + 1) _ HY0.out; have d0 := S4.1.cell (k2 * 11) _ HO0.out; have g0 := S4.1.frozen (k2 * 11); have d1 := S4.1.cell (k2 * 11 + 1) _ HO1.out; have g1 := S4.1.frozen (k2 * 11 + 1); have d2 := S4.1.cell (k2 * 11 + 2) _ HO2.out; have g2 := S4.1.frozen (k2 * 11 + 2); have d3 := S4.1.cell (k2 * 11 + 3) _ HO3.out; have g3 := S4.1.frozen (k2 * 11 + 3); have d4 := S4.1.cell (k2 * 11 + 4) _ HO4.out; have g4 := S4.1.frozen (k2 * 11 + 4); have d5 := S4.1.cell (k2 * 11 + 5) _ HO5.out; have g5 := S4.1.frozen (k2 * 11 + 5); have d6 := S4.1.cell (k2 * 11 + 6) _ HO6.out; have g6 := S4.1.frozen (k2 * 11 + 6); have d7 := S4.1.cell (k2 * 11 + 7) _ HO7.out; have g7 := S4.1.frozen (k2 * 11 + 7); have d8 := S4.1.cell (k2 * 11 + 8) _ HO8.out; have g8 := S4.1.frozen (k2 * 11 + 8); have d9 := S4.1.cell (k2 * 11 + 9) _ HO9.out; have g9 := S4.1.frozen (k2 * 11 + 9); have d10 := S4.1.cell (k2 * 11 + 10) _ HO10.out; have g10 := S4.1.frozen (k2 * 11 + 10))
        have hfr : FrS b2 (b2 + 1) w4 (setAll w4 b2 (k2 * 11) zS) := (FrS.refl _ _ _).set (Nat.le_refl _) (Nat.lt_succ_self _) _ _
        have S5 := Lib.hid (S4.set HN2.out HM2.out HH2.out.2.1)
        have K5 := Lib.hid (K4.step HN1.out HM1.out HH1.out.2.1 hfr ⟨by omega, by omega⟩ (by show f1 k1 ≤ b2; exact HH2.out.1) (by have := HH2.out; omega))
        have X5 := Lib.hid (X4.step HN.out HM.out HH.out hfr ⟨by omega, by omega⟩ (by show f k ≤ b2; have := HH1.out; have := HH2.out; omega) (by have := HH1.out; have := HH2.out; omega))
        clear hfr S4 K4 X4
        go_wp2
        go_roundw
        case rel => exact ⟨k2 + 1, _, by omega, by go_num, X5, K5, S5⟩
        case measure => simp [intOf]; omega
theorem spoil_any : ∀ (d : Nat) (x : Lx d), SpoilV d x
  | 0, x => fun lo hi b n w h hw => by
    obtain ⟨rfl, _⟩ := h
    refine (spoil_nil (some ⟨b, 0, none⟩) 0 w).mono ?_
    rintro e w' ⟨rfl, rfl⟩
    exact ⟨rfl, FrS.refl _ _ _⟩
  | d + 1, x => fun lo hi b n w h hw => spoil_step d x (fun k y hk i z hz j s hs => spoil_any d s.2) lo hi b n w h hw
end Go.Proofs.Ytfgnepbpfglepaa
