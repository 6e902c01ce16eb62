/- Texts of mine in one: Bb5 Bb6 Bp9 Bpa Bpb. -/
import Derived.Test.YtelbjnanpmdnnaaQ22
import Derived.Test.YtelbjnanpmdnnaaQ25
import Derived.Test.YtelbjnanpmdnnaaShelf
import Derived.Laws.IdiomStrings
namespace Go.Proofs.Ytelbjnanpmdnnaa
section
open Go.RowKit
set_option linter.unusedVariables false
set_option linter.unusedSimpArgs false
theorem dl_cells (x : Dl) : ∀ u ∈ dlCells x, u.oneCell' = true := by
  intro u hu
  unfold dlCells at hu
  simp only [List.mem_cons, List.not_mem_nil, or_false] at hu
  rcases hu with rfl | rfl | rfl | rfl <;> rfl
def DlsPost (xs : List Dl) (w : World) (e : Ending) (w' : World) : Prop := ∃ v, e = .returned v ∧ w'.ownsRow w.heap.size 41 4 v xs.length (xs.flatMap dlCells) ∧ Below w.heap.size w w'
end

section
open Go.RowKit
set_option linter.unusedVariables false
set_option linter.unusedSimpArgs false
def ReadsC (w : World) (a : Option Addr) (n cap sz : Nat) (vs : List Value) : Prop :=
  n ≤ cap ∧ cap ≤ maxLen ∧ (n = 0 ∨ ∃ b, a = some ⟨b, 0, none⟩ ∧ b < w.heap.size ∧ ∀ (q : Nat) (u : Value), vs[q]? = some u → w.cell? ⟨b, q, none⟩ = some u)
theorem ReadsC.later {w w' : World} {a : Option Addr} {n cap sz : Nat} {vs : List Value} (h : ReadsC w a n cap sz vs) (hb : Below w.heap.size w w') : ReadsC w' a n cap sz vs := by
  obtain ⟨h1, h2, h3 | ⟨b, rfl, hlt, hc⟩⟩ := h
  · exact ⟨h1, h2, .inl h3⟩
  · exact ⟨h1, h2, .inr ⟨b, rfl, Nat.lt_of_lt_of_le hlt hb.size, fun j v hv => (hb.cell (p := ⟨b, j, none⟩) hlt).trans (hc j v hv)⟩⟩
theorem readsC_of_own {w : World} {base : Nat} {e : TypeId} {sz : Nat} {v : Value} {n : Nat} {vs : List Value} (h : w.ownsRow base e sz v n vs) : ∃ a cap, v = .slice a n cap ∧ ReadsC w a n cap sz vs := by
  rcases h.2 with ⟨rfl, h0⟩ | ⟨g, cap, cur, rfl, hg, hh, hn, hcap, hsz, htake⟩
  · subst h0
    exact ⟨none, 0, rfl, Nat.le_refl _, by simp [maxLen], .inl rfl⟩
  · refine ⟨_, cap, rfl, hn, hcap, .inr ⟨g, rfl, (Array.getElem?_eq_some_iff.1 hh).1, fun q u hu => ?_⟩⟩
    have hx := h.cells (g := g) rfl q u hu
    rw [← hx]; congr 1; unfold Addr.add; simp
theorem flat_rlCells : ∀ (ts : List Rl) (k : Nat) (t : Rl), ts[k]? = some t → ∀ (j : Nat), j < 7 → (ts.flatMap rlCells)[k * 7 + j]? = (rlCells t)[j]?
  | [], k, t, h, _, _ => by simp at h
  | s :: ts, 0, t, h, j, hj => by
    obtain rfl : s = t := by simpa using h
    rw [List.flatMap_cons, List.getElem?_append_left (by show _ < 7; omega), show 0 * 7 + j = j by omega]
  | s :: ts, k + 1, t, h, j, hj => by
    have hl : (rlCells s).length = 7 := rfl
    rw [List.flatMap_cons, List.getElem?_append_right (by rw [hl]; omega), hl, show (k + 1) * 7 + j - 7 = k * 7 + j from by omega]
    exact flat_rlCells ts k t (by simpa using h) j hj
theorem ReadsC.at_rlCells {w : World} {a : Option Addr} {n cap k : Nat} {ts : List Rl} (h : ReadsC w a n cap 7 (ts.flatMap rlCells)) (hk : k < n) :
    ∃ b, a = some ⟨b, 0, none⟩ ∧ ∀ (k f : Nat) (t : Rl) (v : Value), ts[k]? = some t → f < 7 → (rlCells t)[f]? = some v → w.cell? ⟨b, k * 7 + f, none⟩ = some v := by
  obtain ⟨_, _, h0 | ⟨b, rfl, hb, hc⟩⟩ := h
  · omega
  · exact ⟨b, rfl, fun k f t v ht hf hv => hc _ _ ((flat_rlCells ts k t ht f hf).trans hv)⟩
end

section
open Go.RowKit
set_option linter.unusedVariables false
set_option linter.unusedSimpArgs false
def TwoB (a b : Int) (w : World) (e : Ending) (w' : World) : Prop := e = .returned (.tuple #[.int .i64 a, .int .i64 b]) ∧ Below w.heap.size w w'
theorem below_own {w0 w w' : World} {p : Nat} (h : Below w0.heap.size w0 w) (g : w.grownBy w' (some p)) (hp : w0.heap.size ≤ p) : Below w0.heap.size w0 w' := h.grown g h.size (fun k hk => by injection hk with hk; omega)
set_option maxRecDepth 100000 in
set_option maxHeartbeats 16000000 in
theorem btrim_any {ts : List Tk} {b n cap : Nat} {w : World} (f t : Int) (a E : Nat) (hT : TkRow w b n ts) (hcap : n ≤ cap) (hc2 : cap ≤ 9223372036854775807) (hn : n ≤ 1000000) (ha : (a : Int) = max f 0) (ha2 : (a : Int) ≤ 9223372036854775807) (hE : endF ts (min t n).toNat a = E) :
    Calls Try.prog 44 #[.slice (some ⟨b, 0, none⟩) n cap, .int .i64 f, .int .i64 t] w (TwoB ((trimF ts E a).1 : Nat) ((trimF ts E a).2 : Nat) w) := by
  have hge : a ≤ E := by rw [← hE]; exact endF_ge _ _ _
  have hle : E ≤ max a n := by have := endF_le ts (min t n).toNat a; omega
  have cN := bnew_any (w := w) f t a hT hcap hc2 hn ha ha2 E hE
  obtain ⟨ho1, ho2, ho3⟩ := overF_bounds ts (isK 13) E _ a (Nat.le_refl _)
  have HM : Hid (trimF ts E a = if overF ts (isK 13) E a < E then (overF ts (isK 13) E a, backF ts (overF ts (isK 13) E a) E) else (a, a)) := Lib.hid rfl
  have hov : overF ts (inK [13]) E a = overF ts (isK 13) E a := by
    rw [show inK [13] = isK 13 from funext fun k => by unfold inK isK; simp]
  generalize hM : trimF ts E a = M at *
  generalize hS : overF ts (isK 13) E a = S at *
  have H3 := Lib.hid ho3
  have HV := Lib.hid hov
  clear hM hS ho3 hov hE ha hT
  generalize hm : min t (n : Int) = mt at *
  clear hm
  go_enter Try.func44, Try.ntmps44
  go_wp2_with fail
  refine cN.mono ?_
  rintro e1 w1 ⟨p, rfl, hrd, hb1, hpl⟩
  have H0 := Lib.hid hrd
  have HB1 := Lib.hid hb1
  have hpw : p < w1.heap.size := hpl
  have hbB := hrd.lb
  have hBp := hrd.lp
  have hsz := hb1.size
  clear cN hrd hb1 hpl
  have cr1 := H0.out.blk.cell 1 _ rfl
  go_wp2_with fail
  clear cr1
  have Kk1 : KsAt (w1.alloc (.cells [Value.int .i64 13].toArray 3)) p (some ⟨w1.heap.size, 0, none⟩) 1 [13] := (ks_alloc (w := w1) [13] (by have := H0.out.blk.lt; omega) (by decide))
  have H11 := Lib.hid ((H0.out.later ((Below.refl w1.heap.size w1).alloc (Nat.le_refl _) (.cells [Value.int .i64 13].toArray 3))))
  have G11 := Lib.hid (grown_drewN (World.grownBy_alloc w1 (.cells [Value.int .i64 13].toArray 3) (some p)) 0)
  have G11 : Hid (w1.grownBy (w1.alloc (.cells [Value.int .i64 13].toArray 3)) (some p)) := G11
  have hz11 : w1.heap.size < (w1.alloc (.cells [Value.int .i64 13].toArray 3)).heap.size := by show w1.heap.size < (w1.alloc (.cells [Value.int .i64 13].toArray 3)).heap.size; simp
  have hk11 := H0.out.blk.lt
  generalize (w1.alloc (.cells [Value.int .i64 13].toArray 3)) = w11 at *
  have HKk1 := Lib.hid Kk1; clear Kk1
  have cP := bpass_any _ 1 1 [13] H11.out rfl HKk1.out.1 (fun b off e => (HKk1.out.2 b off e).1)
  rw [HV.out] at cP
  refine (cP).mono ?_
  rintro e12 w12 ⟨rfl, h12, g12⟩
  have H12 := Lib.hid h12
  have G12 := Lib.hid (grown_trans G11.out g12)
  have hs12 := G12.out.size
  clear H11 G11 g12 h12
  clear cP HV
  by_cases hSE : S < E
  · have hMv : M = (S, backF ts S E) := by rw [HM.out, if_pos hSE]
    subst hMv
    rw [decide_eq_true hSE]
    have hSn := isK_no (show kdA ts S ≠ 13 from fun h => by have h2 := H3.out hSE; rw [isK_yes h] at h2; cases h2)
    have hSk : Hid (kdA ts S ≠ 13) := Lib.hid (fun h => by rw [isK_yes h] at hSn; cases hSn)
    clear HM H3 hSn
    have cr1 := H12.out.blk.cell 1 _ rfl
    go_wp2_with fail
    clear cr1
    go_loopw [10] (fun v wr => ∃ (i l : Nat), Hid (Rdr wr w.heap.size p b n cap ts mt E i) ∧ v = .int .i64 l ∧ Hid (backF ts S (max i (S + 1)) = l + 1) ∧ S ≤ i ∧ i ≤ E ∧ l ≤ E ∧ Hid (w1.grownBy wr (some p)))
      (fun _ wr => E - placeIn wr p)
    case atStart => exact ⟨S, S, H12, rfl, Lib.hid (by rw [show max S (S + 1) = S + 1 by omega]; show (if _ then _ else _) = _; rw [if_neg (fun h => hSk.out h.2)]), by omega, by omega, by omega, G12⟩
    case round =>
      obtain ⟨i, l, H, rfl, hL, hSi, hiE, hlE, G⟩ := hrel
      clear H12 G12
      have hplc := Lib.hid H.out.place
      have hiw := H.out.blk.lt
      have cM := bmore_any H.out
      by_cases hi : i < E
      · rw [decide_eq_true hi] at cM
        have hin := (H.out.lt (Nat.le_refl _) hi).1
        go_wp2_with fail
        refine (cM).mono ?_
        rintro e13 w13 ⟨rfl, hq13⟩
        have g13 := quiet_grown hq13 (World.grownBy.refl wr (some p))
        have h13 := quiet_rdr hq13 H.out
        have H13 := Lib.hid h13
        have G13 := Lib.hid (grown_trans G.out g13)
        have hs13 := G13.out.size
        clear H G g13 h13 hq13
        clear cM
        go_wp2_with fail
        have Kk2 : KsAt (w13.alloc (.cells [Value.int .i64 13].toArray 3)) p (some ⟨w13.heap.size, 0, none⟩) 1 [13] := (ks_alloc (w := w13) [13] (by have := H13.out.blk.lt; omega) (by decide))
        have H14 := Lib.hid ((H13.out.later ((Below.refl w13.heap.size w13).alloc (Nat.le_refl _) (.cells [Value.int .i64 13].toArray 3))))
        have G14 := Lib.hid (grown_drewN (grown_trans G13.out (World.grownBy_alloc w13 (.cells [Value.int .i64 13].toArray 3) (some p))) 0)
        have G14 : Hid (w1.grownBy (w13.alloc (.cells [Value.int .i64 13].toArray 3)) (some p)) := G14
        have hz14 : w13.heap.size < (w13.alloc (.cells [Value.int .i64 13].toArray 3)).heap.size := by show w13.heap.size < (w13.alloc (.cells [Value.int .i64 13].toArray 3)).heap.size; simp
        have hk14 := H13.out.blk.lt
        generalize (w13.alloc (.cells [Value.int .i64 13].toArray 3)) = w14 at *
        generalize w13.heap.size = k2 at *
        have HKk2 := Lib.hid Kk2; clear Kk2
        clear H13 G13
        have cI := bis_any _ 1 1 [13] H14.out rfl HKk2.out.1
        have hib : isB2 ts E i [13] = decide (kdA ts i = 13) := by unfold isB2; rw [decide_eq_true hi, Bool.true_and]; simp
        rw [hib] at cI
        clear hib
        by_cases hk : kdA ts i = 13
        · have hiS : S < i := by rcases Nat.lt_or_ge S i with h | h; exact h; exact absurd hk (by rw [show i = S by omega]; exact hSk.out)
          have HL2 : Hid (backF ts S (max (i + 1) (S + 1)) = l + 1) := Lib.hid (by
            rw [← hL.out, show max (i + 1) (S + 1) = i + 1 by omega, show max i (S + 1) = i by omega]
            show (if _ then _ else _) = _
            rw [if_pos ⟨by omega, hk⟩])
          rw [decide_eq_true hk] at cI
          clear hk hL
          refine (cI).mono ?_
          rintro e15 w15 ⟨rfl, hq15⟩
          have g15 := quiet_grown hq15 (World.grownBy.refl w14 (some p))
          have h15 := quiet_rdr hq15 H14.out
          have H15 := Lib.hid h15
          have G15 := Lib.hid (grown_trans G14.out g15)
          have hs15 := G15.out.size
          clear H14 G14 g15 h15 hq15
          clear cI
          have cr1 := H15.out.blk.cell 1 _ rfl
          have fr1 := H15.out.blk.frozen 1
          go_wp2
          clear cr1 fr1
          have h9 := H15.out.at_ (i + 1) (by omega) (by omega)
          have g9 := grown_trans G15.out (grown_setCell w15 p 1 (.int .i64 ((i + 1 : Nat) : Int)))
          rw [show ((i + 1 : Nat) : Int) = (i : Int) + 1 from by omega] at h9 g9
          have hp9 := h9.place
          go_roundw
          case rel => exact ⟨i + 1, l, Lib.hid h9, rfl, HL2, by omega, by omega, by omega, Lib.hid g9⟩
          case measure => rw [hp9, hplc.out]; omega
        · have HL2 : Hid (backF ts S (max (i + 1) (S + 1)) = i + 1) := Lib.hid (by
            rw [show max (i + 1) (S + 1) = i + 1 by omega]
            show (if _ then _ else _) = _
            rw [if_neg (fun h => hk h.2)])
          rw [decide_eq_false hk] at cI
          clear hk hL
          refine (cI).mono ?_
          rintro e15 w15 ⟨rfl, hq15⟩
          have g15 := quiet_grown hq15 (World.grownBy.refl w14 (some p))
          have h15 := quiet_rdr hq15 H14.out
          have H15 := Lib.hid h15
          have G15 := Lib.hid (grown_trans G14.out g15)
          have hs15 := G15.out.size
          clear H14 G14 g15 h15 hq15
          clear cI
          have cr1 := H15.out.blk.cell 1 _ rfl
          have fr1 := H15.out.blk.frozen 1
          go_wp2
          clear cr1 fr1
          have h9 := H15.out.at_ (i + 1) (by omega) (by omega)
          have g9 := grown_trans G15.out (grown_setCell w15 p 1 (.int .i64 ((i + 1 : Nat) : Int)))
          rw [show ((i + 1 : Nat) : Int) = (i : Int) + 1 from by omega] at h9 g9
          have hp9 := h9.place
          go_roundw
          case rel => exact ⟨i + 1, i, Lib.hid h9, rfl, HL2, by omega, by omega, by omega, Lib.hid g9⟩
          case measure => rw [hp9, hplc.out]; omega
      · obtain rfl : i = E := by omega
        have hBv : backF ts S i = l + 1 := by rw [← hL.out, show max i (S + 1) = i by omega]
        rw [decide_eq_false hi] at cM
        have HBv := Lib.hid hBv
        clear hBv hL
        go_wp2_with fail
        refine (cM).mono ?_
        rintro e13 w13 ⟨rfl, hq13⟩
        have g13 := quiet_grown hq13 (World.grownBy.refl wr (some p))
        have h13 := quiet_rdr hq13 H.out
        have H13 := Lib.hid h13
        have G13 := Lib.hid (grown_trans G.out g13)
        have hs13 := G13.out.size
        clear H G g13 h13 hq13
        clear cM
        go_wp2
        go_ret2
        exact ⟨by rw [HBv.out]; rfl, below_own HB1.out G13.out hBp⟩
  · have hMv : M = (a, a) := by rw [HM.out, if_neg hSE]
    subst hMv
    rw [decide_eq_false hSE]
    clear HM H3
    go_wp2
    go_ret2
    exact ⟨rfl, below_own HB1.out G12.out hBp⟩
end

section
open Go.RowKit
set_option linter.unusedVariables false
set_option linter.unusedSimpArgs false
set_option maxRecDepth 100000 in
set_option maxHeartbeats 1000000 in
theorem bprefixIn_any (s : ByteArray) (w : World) : Calls Try.prog 80 #[.string s, .string ⟨#[45, 45]⟩] w (Tells (.bool (dashB s)) w) := by
  unfold dashB
  by_cases hs : 2 ≤ s.size
  · rw [decide_eq_true hs, Bool.true_and]
    have hs' : (2 : Int) ≤ (s.size : Int) := by omega
    go_enter Try.func80, Try.ntmps80
    go_wp2
    go_ret
    exact ⟨rfl, rfl⟩
  · rw [decide_eq_false hs, Bool.false_and]
    have hs' : ¬ (2 : Int) ≤ (s.size : Int) := by omega
    go_enter Try.func80, Try.ntmps80
    go_wp2
    go_ret
    exact ⟨rfl, rfl⟩
set_option maxRecDepth 100000 in
theorem bprefix_any (s : ByteArray) (w : World) : Calls Try.prog 67 #[.string s, .string ⟨#[45, 45]⟩] w (Tells (.bool (dashB s)) w) := by
  have h := fun w => bprefixIn_any s w
  generalize dashB s = r at *
  go_enter Try.func67, Try.ntmps67
  go_wp2_with fail
  refine (h _).mono ?_
  rintro e wq ⟨rfl, hwq⟩; replace hwq := hwq.symm; subst hwq
  go_wp2
  go_ret
  exact ⟨rfl, rfl⟩
set_option maxRecDepth 100000 in
theorem bclone_any (s : ByteArray) (w : World) (hs : s.size ≤ 1000000) : Calls Try.prog 68 #[.string s] w (Told (.string s) w) := by
  have hC := fun w => Try.stringslite_Clone s w (by omega)
  go_enter Try.func68, Try.ntmps68
  go_wp2_with fail
  refine (hC _).mono ?_
  rintro e w1 ⟨rfl, hb⟩
  go_wp2
  go_ret
  exact ⟨rfl, hb⟩
set_option maxRecDepth 100000 in
set_option maxHeartbeats 1000000 in
theorem bproperty_any (s : ByteArray) (w : World) (hs : s.size ≤ 1000000) : Calls Try.prog 43 #[.string s] w (Told (.string (propF s)) w) := by
  have hP := bprefix_any s w
  have hC := bclone_any s w hs
  have hL := lower_any s w (by omega)
  cases hd : dashB s with
  | true =>
    rw [show propF s = s from by unfold propF; rw [if_pos hd]]
    rw [hd] at hP
    clear hL hd
    go_enter Try.func43, Try.ntmps43
    go_wp2_with fail
    refine hP.mono ?_
    rintro e wq ⟨rfl, hwq⟩; replace hwq := hwq.symm; subst hwq
    go_wp2_with fail
    refine hC.mono ?_
    rintro e w1 ⟨rfl, hb⟩
    go_wp2
    go_ret
    exact ⟨rfl, hb⟩
  | false =>
    rw [show propF s = lowS s from by unfold propF; rw [hd, if_neg (by simp)]]
    rw [hd] at hP
    clear hC hd
    generalize lowS s = L at *
    go_enter Try.func43, Try.ntmps43
    go_wp2_with fail
    refine hP.mono ?_
    rintro e wq ⟨rfl, hwq⟩; replace hwq := hwq.symm; subst hwq
    go_wp2_with fail
    refine hL.mono ?_
    rintro e w1 ⟨rfl, hb⟩
    go_wp2
    go_ret
    exact ⟨rfl, hb⟩
def tkA (k u1 u2 : Int) (tx u4 : ByteArray) (u5 : Bool) : Value := .agg #[.int .i64 k, .int .i64 u1, .int .i64 u2, .string tx, .string u4, .bool u5]
def markT (k : Int) (tx : ByteArray) : Bool := decide (k = 9) && (tx.toList == [33])
def impT (k : Int) (tx : ByteArray) : Bool := decide (k = 1) && sameB tx ⟨#[105, 109, 112, 111, 114, 116, 97, 110, 116]⟩
set_option maxRecDepth 100000 in
set_option maxHeartbeats 1000000 in
theorem bmark_any (k u1 u2 : Int) (tx u4 : ByteArray) (u5 : Bool) (w : World) : Calls Try.prog 69 #[tkA k u1 u2 tx u4 u5] w (Told (.bool (markT k tx)) w) := by
  unfold tkA markT
  have B1 : Blk (w.alloc (.cells [.int .i64 k, .int .i64 u1, .int .i64 u2, .string tx, .string u4, .bool u5].toArray 52)) w.heap.size [.int .i64 k, .int .i64 u1, .int .i64 u2, .string tx, .string u4, .bool u5] 52 := Blk.alloc _ _
  have hb := (Below.refl w.heap.size w).alloc (Nat.le_refl _) (.cells [.int .i64 k, .int .i64 u1, .int .i64 u2, .string tx, .string u4, .bool u5].toArray 52)
  by_cases hk : k = 9
  · subst hk
    rw [decide_eq_true rfl, Bool.true_and]
    have c0 := B1.cell 0 _ rfl
    have c3 := B1.cell 3 _ rfl
    go_enter Try.func69, Try.ntmps69
    go_wp2
    go_ret
    exact ⟨rfl, hb⟩
  · rw [decide_eq_false hk, Bool.false_and]
    have nk : (k == 9) = false := beq_eq_false_iff_ne.2 hk
    have c0 := B1.cell 0 _ rfl
    clear hk
    go_enter Try.func69, Try.ntmps69
    go_wp2
    go_ret
    exact ⟨rfl, hb⟩
set_option maxRecDepth 100000 in
set_option maxHeartbeats 1000000 in
theorem bimp_any (k u1 u2 : Int) (tx u4 : ByteArray) (u5 : Bool) (w : World) (hs : tx.size ≤ 1000000) : Calls Try.prog 70 #[tkA k u1 u2 tx u4 u5] w (Told (.bool (impT k tx)) w) := by
  unfold tkA impT
  have B1 : Blk (w.alloc (.cells [.int .i64 k, .int .i64 u1, .int .i64 u2, .string tx, .string u4, .bool u5].toArray 52)) w.heap.size [.int .i64 k, .int .i64 u1, .int .i64 u2, .string tx, .string u4, .bool u5] 52 := Blk.alloc _ _
  have hb := (Below.refl w.heap.size w).alloc (Nat.le_refl _) (.cells [.int .i64 k, .int .i64 u1, .int .i64 u2, .string tx, .string u4, .bool u5].toArray 52)
  by_cases hk : k = 1
  · subst hk
    rw [decide_eq_true rfl, Bool.true_and]
    have c0 := B1.cell 0 _ rfl
    have c3 := B1.cell 3 _ rfl
    have cS := fun w' => same_any tx ⟨#[105, 109, 112, 111, 114, 116, 97, 110, 116]⟩ w' hs
    generalize sameB tx ⟨#[105, 109, 112, 111, 114, 116, 97, 110, 116]⟩ = r at *
    go_enter Try.func70, Try.ntmps70
    go_wp2_with fail
    refine (cS _).mono ?_
    rintro e w1 ⟨rfl, hb1⟩
    go_wp2
    go_ret
    exact ⟨rfl, hb.trans (hb1.mono hb.size)⟩
  · rw [decide_eq_false hk, Bool.false_and]
    have nk : (k == 1) = false := beq_eq_false_iff_ne.2 hk
    have c0 := B1.cell 0 _ rfl
    clear hk
    go_enter Try.func70, Try.ntmps70
    go_wp2
    go_ret
    exact ⟨rfl, hb⟩
theorem bytes_inj : ∀ (xs ys : List Int), (∀ x ∈ xs, 0 ≤ x ∧ x ≤ 255) → (∀ y ∈ ys, 0 ≤ y ∧ y ≤ 255) → xs.map (fun n => UInt8.ofNat n.toNat) = ys.map (fun n => UInt8.ofNat n.toNat) → xs = ys
  | [], [], _, _, _ => rfl
  | [], y :: ys, _, _, h => by simp at h
  | x :: xs, [], _, _, h => by simp at h
  | x :: xs, y :: ys, hx, hy, h => by
    rw [List.map_cons, List.map_cons, List.cons.injEq] at h
    have h1 := hx x (List.mem_cons_self ..)
    have h2 := hy y (List.mem_cons_self ..)
    have h3 := congrArg UInt8.toNat h.1
    rw [UInt8.toNat_ofNat', UInt8.toNat_ofNat'] at h3
    rw [Nat.mod_eq_of_lt (by omega), Nat.mod_eq_of_lt (by omega)] at h3
    rw [bytes_inj xs ys (fun z hz => hx z (List.mem_cons_of_mem _ hz)) (fun z hz => hy z (List.mem_cons_of_mem _ hz)) h.2]
    congr 1; omega
theorem same_imp (tx : ByteArray) : sameB tx ⟨#[105, 109, 112, 111, 114, 116, 97, 110, 116]⟩ = ((lowS tx).toList == [105, 109, 112, 111, 114, 116, 97, 110, 116]) := by
  have h0 : lowL (strB ⟨#[105, 109, 112, 111, 114, 116, 97, 110, 116]⟩) = [105, 109, 112, 111, 114, 116, 97, 110, 116] := by decide
  unfold sameB
  rw [h0, Bool.eq_iff_iff, decide_eq_true_iff, beq_iff_eq]
  constructor
  · intro h
    unfold lowS
    rw [h, ByteArray.toList_eq, strOfNums_data]
    decide
  · intro h
    refine bytes_inj _ _ (fun x hx => ?_) (by decide) ?_
    · unfold lowL at hx
      rw [List.mem_map] at hx
      obtain ⟨b, _, rfl⟩ := hx
      exact smallF_byte b
    · rw [show ([105, 109, 112, 111, 114, 116, 97, 110, 116] : List Int).map (fun n => UInt8.ofNat n.toNat) = [105, 109, 112, 111, 114, 116, 97, 110, 116] from by decide, ← h, ByteArray.toList_eq]
      unfold lowS
      rw [strOfNums_data]
end

section
open Go.RowKit
set_option linter.unusedVariables false
set_option linter.unusedSimpArgs false
def IntBB (a : Int) (r : Bool) (w : World) (e : Ending) (w' : World) : Prop := e = .returned (.tuple #[.int .i64 a, .bool r]) ∧ Below w.heap.size w w'
theorem impB_of (ts : List Tk) (a q : Nat) (m2 : Nat) (hm : (trimF ts q a).2 = m2) (hle : a < m2 → a < q + 1) :
    impB ts a (q + 1) = (decide (a < m2) && (markT (kdA ts (m2 - 1)) (txA ts (m2 - 1)) && impT (kdA ts q) (txA ts q))) := by
  unfold impB markF markT impT
  rw [show q + 1 - 1 = q from rfl, hm, same_imp]
  by_cases h : a < m2
  · rw [decide_eq_true h, decide_eq_true (hle h)]
    simp only [Bool.true_and]
    generalize decide (kdA ts q = 1) = x1
    generalize ((lowS (txA ts q)).toList == [105, 109, 112, 111, 114, 116, 97, 110, 116]) = x2
    generalize decide (kdA ts (m2 - 1) = 9) = x3
    generalize ((txA ts (m2 - 1)).toList == [33]) = x4
    cases x1 <;> cases x2 <;> cases x3 <;> cases x4 <;> rfl
  · rw [decide_eq_false h]
    generalize decide (a < q + 1) = x0
    generalize decide (kdA ts q = 1) = x1
    generalize ((lowS (txA ts q)).toList == [105, 109, 112, 111, 114, 116, 97, 110, 116]) = x2
    cases x0 <;> cases x1 <;> cases x2 <;> rfl
set_option maxRecDepth 100000 in
set_option maxHeartbeats 16000000 in
theorem bimportance_any {ts : List Tk} {b n cap : Nat} {w : World} (j a q E : Nat) (hT : TkRow w b n ts) (hcap : n ≤ cap) (hc2 : cap ≤ 9223372036854775807) (hn : n ≤ 1000000) (hs : ∀ j, (txA ts j).size ≤ 1000000) (ha : 1 ≤ a) (hja : j ≤ a) (haq : a ≤ q + 1) (hqE : q + 1 ≤ E) (hE : E ≤ n) (hNE : NoEnd ts j E) :
    Calls Try.prog 45 #[.slice (some ⟨b, 0, none⟩) n cap, .int .i64 a, .int .i64 (q + 1 : Nat)] w (IntBB (if impB ts a (q + 1) = true then ((markF ts a (q + 1) : Nat) : Int) - 1 else 0) (impB ts a (q + 1)) w) := by
  have hte := trimF_end hNE hja haq hqE
  rw [show q + 1 - 1 = q from rfl] at hte
  have cT := btrim_any (w := w) (a : Int) ((q : Int)) a (endF ts q a) hT hcap hc2 hn (by omega) (by omega) (by rw [show min (q : Int) (n : Int) = q by omega]; rfl)
  rw [hte] at cT
  have htb : a ≤ (trimF ts q a).2 ∧ (trimF ts q a).2 ≤ max a q := by
    rw [← hte]
    have h1 := endF_ge ts q a
    have h2 := endF_le ts q a
    have h3 := trimF_bounds ts (endF ts q a) a h1
    omega
  obtain ⟨m2, hm2⟩ : ∃ m2, (trimF ts q a).2 = m2 := ⟨_, rfl⟩
  have hib := impB_of ts a q m2 hm2 (by omega)
  have hmk : markF ts a (q + 1) = m2 := hm2
  rw [hm2] at htb cT
  rw [hmk]
  generalize (trimF ts q a).1 = m1 at *
  generalize impB ts a (q + 1) = R at *
  obtain ⟨k2, rfl⟩ : ∃ k2, m2 = k2 + 1 := ⟨m2 - 1, by omega⟩
  rw [show k2 + 1 - 1 = k2 from rfl] at hib
  have hc1 : ((k2 + 1 : Nat) : Int) = (k2 : Int) + 1 := by omega
  have hc3 : ((q + 1 : Nat) : Int) = (q : Int) + 1 := by omega
  have hres : (if R = true then ((k2 + 1 : Nat) : Int) - 1 else 0) = (if R = true then (k2 : Int) else 0) := by split <;> omega
  rw [hres, hc3]
  generalize hMv : (if R = true then (k2 : Int) else 0) = M at *
  have HMv := Lib.hid hMv
  rw [hc1] at cT
  have hq0 : (0 : Int) ≤ (q : Int) := by omega
  have HT := Lib.hid hT
  have hbw := hT.lt
  clear hte hm2 hmk hres hc1 hc3 hT hMv
  by_cases hak : a < k2 + 1
  · have hak1 : ¬ (k2 : Int) < (a : Int) := by omega
    have hak2 : decide ((k2 : Int) < (a : Int)) = false := decide_eq_false hak1
    have hk2n : (k2 : Int) < (n : Int) := by omega
    have hqn : (q : Int) < (n : Int) := by omega
    rw [decide_eq_true hak, Bool.true_and] at hib
    have HIB := Lib.hid hib
    clear hib
    obtain ⟨u1, u2, u4, u5, hu1, hu2, hu4, hu5⟩ := HT.out.ex k2 (by omega)
    obtain ⟨v1, v2, v4, v5, hv1, hv2, hv4, hv5⟩ := HT.out.ex q (by omega)
    have cM := fun w' => bmark_any (kdA ts k2) u1 u2 (txA ts k2) u4 u5 w'
    have cI := fun w' => bimp_any (kdA ts q) v1 v2 (txA ts q) v4 v5 w' (hs q)
    have hkd2 := HT.out.kd k2 (by omega)
    have htx2 := HT.out.tx k2 (by omega)
    have hkdq := HT.out.kd q (by omega)
    have htxq := HT.out.tx q (by omega)
    have hkq : k2 < q := by omega
    have hHTn := HT.out.lt
    clear htb hs hNE HT
    generalize markT (kdA ts k2) (txA ts k2) = mk at *
    generalize impT (kdA ts q) (txA ts q) = im at *
    generalize kdA ts k2 = k9 at *
    generalize txA ts k2 = x9 at *
    generalize kdA ts q = k1 at *
    generalize txA ts q = x1 at *
    unfold tkA at cM cI
    go_enter Try.func45, Try.ntmps45
    go_wp2_with fail
    refine cT.mono ?_
    rintro e w1 ⟨rfl, hb1⟩
    have d0 := (hb1.cell (p := ⟨b, k2 * 6, none⟩) hbw).trans hkd2
    have d1 := (hb1.cell (p := ⟨b, k2 * 6 + 1, none⟩) hbw).trans hu1
    have d2 := (hb1.cell (p := ⟨b, k2 * 6 + 2, none⟩) hbw).trans hu2
    have d3 := (hb1.cell (p := ⟨b, k2 * 6 + 3, none⟩) hbw).trans htx2
    have d4 := (hb1.cell (p := ⟨b, k2 * 6 + 4, none⟩) hbw).trans hu4
    have d5 := (hb1.cell (p := ⟨b, k2 * 6 + 5, none⟩) hbw).trans hu5
    have HB1 := Lib.hid hb1
    clear cT hb1 hkd2 htx2 hu1 hu2 hu4 hu5
    cases mk with
    | false =>
      have hRv : R = false := by rw [HIB.out]; rfl
      subst hRv
      obtain rfl : M = 0 := by rw [← HMv.out, if_neg (by simp)]
      clear HMv HIB cI hkdq htxq hv1 hv2 hv4 hv5
      go_wp2_with (first | (go_at_call 69; ((with_reducible refine (cM _).mono ?_)); rintro e w2 ⟨rfl, hb2⟩; have HB2 := Lib.hid (HB1.out.trans (hb2.mono HB1.out.size)); clear hb2))
      go_ret2
      exact ⟨rfl, HB2.out⟩
    | true =>
      have hRv : R = im := by rw [HIB.out]; rfl
      subst hRv
      clear HIB
      cases R with
      | false =>
        obtain rfl : M = 0 := by rw [← HMv.out, if_neg (by simp)]
        clear HMv
        go_wp2_with (first | (go_at_call 69; ((with_reducible refine (cM _).mono ?_)); rintro e w2 ⟨rfl, hb2⟩; have HB2 := Lib.hid (HB1.out.trans (hb2.mono HB1.out.size)); clear hb2 d0 d1 d2 d3 d4 d5; have g0 := (HB2.out.cell (p := ⟨b, q * 6, none⟩) hbw).trans hkdq; have g1 := (HB2.out.cell (p := ⟨b, q * 6 + 1, none⟩) hbw).trans hv1; have g2 := (HB2.out.cell (p := ⟨b, q * 6 + 2, none⟩) hbw).trans hv2; have g3 := (HB2.out.cell (p := ⟨b, q * 6 + 3, none⟩) hbw).trans htxq; have g4 := (HB2.out.cell (p := ⟨b, q * 6 + 4, none⟩) hbw).trans hv4; have g5 := (HB2.out.cell (p := ⟨b, q * 6 + 5, none⟩) hbw).trans hv5) | (go_at_call 70; ((with_reducible refine (cI _).mono ?_)); rintro e w3 ⟨rfl, hb3⟩; have HB3 := Lib.hid (HB2.out.trans (hb3.mono HB2.out.size)); clear hb3))
        go_ret2
        exact ⟨rfl, HB3.out⟩
      | true =>
        obtain rfl : M = (k2 : Int) := by rw [← HMv.out, if_pos rfl]
        clear HMv
        go_wp2_with (first | (go_at_call 69; ((with_reducible refine (cM _).mono ?_)); rintro e w2 ⟨rfl, hb2⟩; have HB2 := Lib.hid (HB1.out.trans (hb2.mono HB1.out.size)); clear hb2 d0 d1 d2 d3 d4 d5; have g0 := (HB2.out.cell (p := ⟨b, q * 6, none⟩) hbw).trans hkdq; have g1 := (HB2.out.cell (p := ⟨b, q * 6 + 1, none⟩) hbw).trans hv1; have g2 := (HB2.out.cell (p := ⟨b, q * 6 + 2, none⟩) hbw).trans hv2; have g3 := (HB2.out.cell (p := ⟨b, q * 6 + 3, none⟩) hbw).trans htxq; have g4 := (HB2.out.cell (p := ⟨b, q * 6 + 4, none⟩) hbw).trans hv4; have g5 := (HB2.out.cell (p := ⟨b, q * 6 + 5, none⟩) hbw).trans hv5) | (go_at_call 70; ((with_reducible refine (cI _).mono ?_)); rintro e w3 ⟨rfl, hb3⟩; have HB3 := Lib.hid (HB2.out.trans (hb3.mono HB2.out.size)); clear hb3))
        go_ret2
        exact ⟨rfl, HB3.out⟩
  · have hak1 : (k2 : Int) < (a : Int) := by omega
    have hRv : R = false := by rw [hib, decide_eq_false hak]; rfl
    subst hRv
    obtain rfl : M = 0 := by rw [← HMv.out, if_neg (by simp)]
    clear hib HMv
    go_enter Try.func45, Try.ntmps45
    go_wp2_with fail
    refine cT.mono ?_
    rintro e w1 ⟨rfl, hb1⟩
    have HB1 := Lib.hid hb1
    clear cT hb1
    go_wp2
    go_ret2
    exact ⟨rfl, HB1.out⟩
end
end Go.Proofs.Ytelbjnanpmdnnaa
