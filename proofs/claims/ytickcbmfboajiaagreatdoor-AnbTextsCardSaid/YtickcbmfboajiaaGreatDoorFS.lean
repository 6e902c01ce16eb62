/- Several texts of mine in one. -/
import Derived.Test.YtickcbmfboajiaaGreatDoorAq4Z
namespace Go.Proofs.YtickcbmfboajiaaGreatDoor
section
open Go.RowKit Go.Shelf
set_option linter.unusedVariables false
set_option linter.unusedSimpArgs false

/-- A row that is none, as the document tells it. -/
def cleanR (F : (ByteArray × ByteArray × Nat) × Bool) : (ByteArray × ByteArray × Nat) × Bool := if F.2 = true then F else ((⟨#[]⟩, ⟨#[]⟩, 0), false)
theorem cleanR_no {F : (ByteArray × ByteArray × Nat) × Bool} (h : F.2 = false) : cleanR F = ((⟨#[]⟩, ⟨#[]⟩, 0), false) := by unfold cleanR; rw [h, if_neg (by decide)]
theorem numD_lt {ts : List Tk} {k : Nat} {sg : Bool} (h : numD ts k sg = true) : k < ts.length := by
  unfold numD at h
  rw [Bool.and_eq_true, Bool.and_eq_true, decide_eq_true_iff] at h
  exact h.1.1
theorem numD_false (ts : List Tk) (k : Nat) : numD ts k false = plainT ts k := by unfold numD plainT nmT; cases signedB (strOfNums (tkAt ts k).num) <;> rfl
theorem numD_true {ts : List Tk} {k : Nat} : numD ts k true = (decide (k < ts.length) && (wholeT (tkAt ts k) 10 && signedB (nmT (tkAt ts k)))) := by unfold numD; cases signedB (nmT (tkAt ts k)) <;> simp
theorem one_dash {s : ByteArray} (h : s.size ≤ 1) (hf : firstB s 45 = true) : s = ⟨#[45]⟩ := by
  apply strB_inj
  unfold firstB at hf
  rw [decide_eq_true_iff] at hf
  have hl := strB_len s
  match hs : strB s with
  | [] => rw [hs] at hf; exact absurd hf (by simp)
  | [x] => rw [hs] at hf; simp at hf; rw [hf]; rfl
  | x :: y :: xs => rw [hs] at hl; simp at hl; omega
theorem sign_eq (t : Tk) (c : UInt8) : signT t ⟨#[c]⟩ = (decide (t.kind = 9) && decide (txS t = ⟨#[c]⟩)) := by
  unfold signT
  rw [show (⟨#[c]⟩ : ByteArray).toList = [c] from (ByteArray.toList_eq _).trans rfl, one_str]; rfl
theorem rowP_whole {ts : List Tk} {A rest : ByteArray} {z : Nat} (h0 : rest.size = 0) (h : numD ts (blF ts z) true = true) : rowP ts A rest z = ((A, nmT (tkAt ts (blF ts z)), blF ts z + 1), true) := by
  have hl := numD_lt h
  rw [numD_true, Bool.and_eq_true] at h
  unfold rowP behindT
  rw [if_pos h0, if_neg (by omega), if_pos h.2]
theorem rowP_zero {ts : List Tk} {A rest : ByteArray} {z : Nat} (h0 : rest.size = 0) (h : numD ts (blF ts z) true = false)
    (h2 : ts.length ≤ blF ts z ∨ (tkAt ts (blF ts z)).kind ≠ 9 ∨ (txS (tkAt ts (blF ts z)) ≠ ⟨#[43]⟩ ∧ txS (tkAt ts (blF ts z)) ≠ ⟨#[45]⟩) ∨ numD ts (blF ts (blF ts z + 1)) false = false) :
    rowP ts A rest z = ((A, ⟨#[48]⟩, z), true) := by
  unfold rowP behindT
  rw [if_pos h0]
  by_cases hk : ts.length ≤ blF ts z
  · rw [if_pos hk]
  · rw [if_neg hk]
    rw [numD_true, decide_eq_true (by omega), Bool.true_and] at h
    rw [h, if_neg (by decide)]
    rw [sign_eq, sign_eq]
    rw [numD_false] at h2
    rw [if_neg]
    rcases h2 with h2 | h2 | ⟨h2, h3⟩ | h2
    · exact absurd h2 hk
    · rw [decide_eq_false h2]; simp
    · rw [decide_eq_false h2, decide_eq_false h3]; simp
    · rw [h2]; simp
theorem rowP_sign {ts : List Tk} {A rest : ByteArray} {z : Nat} (h0 : rest.size = 0) (h : numD ts (blF ts z) true = false) (hk : blF ts z < ts.length) (h9 : (tkAt ts (blF ts z)).kind = 9)
    (hx : txS (tkAt ts (blF ts z)) = ⟨#[43]⟩ ∨ txS (tkAt ts (blF ts z)) = ⟨#[45]⟩) (hm : numD ts (blF ts (blF ts z + 1)) false = true) :
    rowP ts A rest z = ((A, txS (tkAt ts (blF ts z)) ++ nmT (tkAt ts (blF ts (blF ts z + 1))), blF ts (blF ts z + 1) + 1), true) := by
  unfold rowP behindT
  rw [if_pos h0, if_neg (by omega)]
  rw [numD_true, decide_eq_true hk, Bool.true_and] at h
  rw [h, if_neg (by decide), if_pos]
  rw [sign_eq, sign_eq, ← numD_false, hm, decide_eq_true h9]
  rcases hx with hx | hx <;> rw [decide_eq_true hx] <;> simp
theorem rowP_dash {ts : List Tk} {A rest : ByteArray} {z : Nat} (h1 : rest = ⟨#[45]⟩) (h : numD ts (blF ts z) false = true) : rowP ts A rest z = ((A, ⟨#[45]⟩ ++ nmT (tkAt ts (blF ts z)), blF ts z + 1), true) := by
  unfold rowP
  rw [numD_false] at h
  rw [if_neg (by rw [h1]; decide), if_pos h1, if_pos h]
theorem rowP_dash_no {ts : List Tk} {A rest : ByteArray} {z : Nat} (h1 : rest = ⟨#[45]⟩) (h : numD ts (blF ts z) false = false) : (rowP ts A rest z).2 = false := by
  unfold rowP
  rw [numD_false] at h
  rw [if_neg (by rw [h1]; decide), if_pos h1, if_neg (by rw [h]; decide)]
/-- Words in small letters. -/
theorem even_low (s : ByteArray) : ((lowS s).toList == [101, 118, 101, 110]) = sameB s evenS := by
  rw [sameB_low, ByteArray.toList_eq, Bool.eq_iff_iff, beq_iff_eq, decide_eq_true_iff]
  show strB (lowS s) = _ ↔ _
  rw [strB_low, show (strB evenS).map lowB = [101, 118, 101, 110] from by decide]
theorem odd_low (s : ByteArray) : ((lowS s).toList == [111, 100, 100]) = sameB s oddS := by
  rw [sameB_low, ByteArray.toList_eq, Bool.eq_iff_iff, beq_iff_eq, decide_eq_true_iff]
  show strB (lowS s) = _ ↔ _
  rw [strB_low, show (strB oddS).map lowB = [111, 100, 100] from by decide]
theorem findP_eq (ts : List Tk) (hl : blF ts 0 < ts.length) (hg : GoodT (tkAt ts (blF ts 0))) : findP ts =
    if (tkAt ts (blF ts 0)).kind = 1 then (if sameB (txS (tkAt ts (blF ts 0))) evenS = true then ((⟨#[50]⟩, ⟨#[48]⟩, blF ts 0 + 1), true) else if sameB (txS (tkAt ts (blF ts 0))) oddS = true then ((⟨#[50]⟩, ⟨#[49]⟩, blF ts 0 + 1), true) else headR ts (headN ts (blF ts 0)))
    else if (tkAt ts (blF ts 0)).kind = 10 ∧ (tkAt ts (blF ts 0)).whole = true then ((⟨#[48]⟩, nmT (tkAt ts (blF ts 0)), blF ts 0 + 1), true)
    else headR ts (headN ts (blF ts 0)) := by
  unfold findP
  rw [if_neg (by omega)]
  unfold GoodT at hg
  unfold wholeT
  by_cases h1 : (tkAt ts (blF ts 0)).kind = 1
  · rw [if_pos h1, h1]; simp
  · rw [if_neg h1]
    by_cases h10 : (tkAt ts (blF ts 0)).kind = 10
    · rw [h10]
      rcases hw : (tkAt ts (blF ts 0)).whole with _ | _
      · simp
      · simp [hg (.inl h10) hw]
    · simp [h1, h10]
theorem head_ten {ts : List Tk} {k : Nat} (hg : GoodT (tkAt ts k)) (h : (tkAt ts k).kind = 10) : headN ts k = none := by
  rw [headN_eq ts k hg]
  unfold headE
  rw [h, if_neg (by decide), if_neg (by decide), if_neg (by decide)]
end

section
open Go.RowKit Go.Shelf
set_option linter.unusedVariables false
set_option linter.unusedSimpArgs false

set_option maxRecDepth 100000 in
set_option maxHeartbeats 8000000 in
theorem rfind_end (ts : List Tk) (n cap : Nat) (a : Option Addr) (w : World) (h : ReadsT w a cap ts) (hn : ts.length = n) (hsm : n ≤ 1000000) (hS : ShortT ts) (hG : ∀ k, GoodT (tkAt ts k)) (hend : n ≤ blF ts 0) : Calls Tryz.prog 33 #[.slice a n cap] w (Told (rowV (cleanR (findP ts))) w) := by
  have hcap := h.1
  have hcap2 : cap ≤ 9223372036854775807 := h.2.1
  rw [hn] at hcap
  have HP := Lib.hid h
  have HNN := Lib.hid hn
  have HS := Lib.hid hS
  have HG := Lib.hid hG
  have hbw0 := (Below.refl w.heap.size w).alloc (Nat.le_refl _) (.cells [.string ⟨#[]⟩, .string ⟨#[]⟩, .int .i64 0].toArray 61)
  have R0 : Blk (w.alloc (.cells [.string ⟨#[]⟩, .string ⟨#[]⟩, .int .i64 0].toArray 61)) w.heap.size [.string ⟨#[]⟩, .string ⟨#[]⟩, .int .i64 0] 61 := Blk.alloc _ _
  have hz0 : (w.alloc (.cells [.string ⟨#[]⟩, .string ⟨#[]⟩, .int .i64 0].toArray 61)).heap.size = w.heap.size + 1 := by simp
  generalize hW0 : w.alloc (.cells [.string ⟨#[]⟩, .string ⟨#[]⟩, .int .i64 0].toArray 61) = W0 at *
  have HW0 := Lib.hid hW0
  clear hW0
  have f0 := rskip_any ts n cap a 0 0 W0 (h.later hbw0) hn hsm rfl (by omega)
  have hle := (blF_le ts 0).2 (by omega)
  rw [hn] at hle
  have hR : Hid (cleanR (findP ts) = ((⟨#[]⟩, ⟨#[]⟩, 0), false)) := Lib.hid (by unfold findP; rw [hn, if_pos hend]; rfl)
  have hbw := hbw0
  have R := R0
  have r0 := R.cell 0 _ rfl; have r1 := R.cell 1 _ rfl; have r2 := R.cell 2 _ rfl; have y0 := R.frozen 0; have y1 := R.frozen 1; have y2 := R.frozen 2
  clear h hn hS hG
  generalize blF ts 0 = q at *
  obtain rfl : q = n := by omega
  have n0 : (q : Int) ≤ (q : Int) := by omega
  go_enter Tryz.func33, Tryz.ntmps33
  go_wp2_with fail
  rw [show w.alloc (Obj.cells #[.string ⟨#[]⟩, .string ⟨#[]⟩, .int .i64 0] 61) = W0 from HW0.out]
  refine f0.mono ?_
  rintro e wq ⟨rfl, hwq⟩; replace hwq := hwq.symm; subst hwq
  go_wp2_with fail
  refine bodyPost_ret (v := .tuple #[.agg #[.string ⟨#[]⟩, .string ⟨#[]⟩, .int .i64 (0)], .bool false]) (by simp [results, Tryz.results33, go_sem, r0, r1, r2]) rfl ⟨by rw [hR.out]; rfl, ?_⟩
  exact below_set3 hbw (Nat.le_refl _) _ _ _

set_option maxRecDepth 100000 in
set_option maxHeartbeats 16000000 in
theorem rfind_ident (ts : List Tk) (n cap : Nat) (a : Option Addr) (w : World) (h : ReadsT w a cap ts) (hn : ts.length = n) (hsm : n ≤ 1000000) (hS : ShortT ts) (hG : ∀ k, GoodT (tkAt ts k)) (hq : blF ts 0 < n) (h1 : (tkAt ts (blF ts 0)).kind = 1) : Calls Tryz.prog 33 #[.slice a n cap] w (Told (rowV (cleanR (findP ts))) w) := by
  have hcap := h.1
  have hcap2 : cap ≤ 9223372036854775807 := h.2.1
  rw [hn] at hcap
  have HP := Lib.hid h
  have HNN := Lib.hid hn
  have HS := Lib.hid hS
  have HG := Lib.hid hG
  have hbw0 := (Below.refl w.heap.size w).alloc (Nat.le_refl _) (.cells [.string ⟨#[]⟩, .string ⟨#[]⟩, .int .i64 0].toArray 61)
  have R0 : Blk (w.alloc (.cells [.string ⟨#[]⟩, .string ⟨#[]⟩, .int .i64 0].toArray 61)) w.heap.size [.string ⟨#[]⟩, .string ⟨#[]⟩, .int .i64 0] 61 := Blk.alloc _ _
  have hz0 : (w.alloc (.cells [.string ⟨#[]⟩, .string ⟨#[]⟩, .int .i64 0].toArray 61)).heap.size = w.heap.size + 1 := by simp
  generalize hW0 : w.alloc (.cells [.string ⟨#[]⟩, .string ⟨#[]⟩, .int .i64 0].toArray 61) = W0 at *
  have HW0 := Lib.hid hW0
  clear hW0
  have f0 := rskip_any ts n cap a 0 0 W0 (h.later hbw0) hn hsm rfl (by omega)
  have hle := (blF_le ts 0).2 (by omega)
  rw [hn] at hle
  have hfp := findP_eq ts (by rw [hn]; exact hq) (hG _)
  have hH0 := fun w' hb => rheads_any ts n cap a ((blF ts 0 : Nat) : Int) (blF ts 0) w' (ReadsT.later (w := w) (w' := w') HP.out hb) hn hsm rfl hq hS (hG _)
  have hbd := head_bd (ts := ts) (k := blF ts 0) hS (by rw [hn]; exact hq)
  rw [hn] at hbd
  have HBD := Lib.hid hbd
  have h10n := fun h => head_ten (ts := ts) (k := blF ts 0) (hG _) h
  have H10 := Lib.hid h10n
  have HH0 := Lib.hid hH0
  clear hbd hH0 h10n
  have fL := fun w => rlower_any (txS (tkAt ts (blF ts 0))) w (by have := (hS (blF ts 0)).1; omega)
  generalize blF ts 0 = q at *
  have hq' : (q : Int) < (n : Int) := by omega
  have hq2 : ¬ (n : Int) ≤ (q : Int) := by omega
  obtain ⟨b, ea, hc⟩ := (h.later hbw0).at
  have c0 : W0.cell? ⟨b, q * 6, none⟩ = some (.int .i64 (tkAt ts q).kind) := hc q (by rw [hn]; exact hq) 0 _ rfl
  have c1 := hc q (by rw [hn]; exact hq) 1 _ rfl
  have c2 := hc q (by rw [hn]; exact hq) 2 _ rfl
  have c3 : W0.cell? ⟨b, q * 6 + 3, none⟩ = some (.string (txS (tkAt ts q))) := hc q (by rw [hn]; exact hq) 3 _ rfl
  have c4 : W0.cell? ⟨b, q * 6 + 4, none⟩ = some (.string (nmT (tkAt ts q))) := hc q (by rw [hn]; exact hq) 4 _ rfl
  have c5 := hc q (by rw [hn]; exact hq) 5 _ rfl
  have HCS : Hid (∀ p, p < n → ∀ w' (hb : Below w.heap.size w w') j v, (tkCells (tkAt ts p))[j]? = some v → w'.cell? ⟨b, p * 6 + j, none⟩ = some v) := Lib.hid (fun p hp w' hb j v hv => by
    obtain ⟨b', e, hc'⟩ := (HP.out.later hb).at
    rw [ea] at e
    cases e
    exact hc' p (by rw [HNN.out]; exact hp) j v hv)
  have hbl : b < W0.heap.size := by
    have hx := h.later hbw0
    rw [ea] at hx
    exact hx.lt
  subst ea
  clear hc h hn hS hG
  have q1 := even_low (txS (tkAt ts q))
  have q2 := odd_low (txS (tkAt ts q))
  generalize txS (tkAt ts q) = TX at *
  generalize nmT (tkAt ts q) = NM at *
  generalize hkd : (tkAt ts q).kind = kd at *
  have HKD := Lib.hid hkd
  clear hkd
  generalize (tkAt ts q).whole = wh at *
  generalize (tkAt ts q).frm = fr at *
  generalize (tkAt ts q).to = to_ at *
  have hbw := hbw0.alloc hbw0.size (.cells [.int .i64 kd, .int .i64 fr, .int .i64 to_, .string TX, .string NM, .bool wh].toArray 32)
  have R := R0.alloc_old (.cells [.int .i64 kd, .int .i64 fr, .int .i64 to_, .string TX, .string NM, .bool wh].toArray 32)
  have B : Blk (W0.alloc (.cells [.int .i64 kd, .int .i64 fr, .int .i64 to_, .string TX, .string NM, .bool wh].toArray 32)) (w.heap.size + 1) [.int .i64 kd, .int .i64 fr, .int .i64 to_, .string TX, .string NM, .bool wh] 32 := by rw [← hz0]; exact Blk.alloc _ _
  have d0 := B.cell 0 _ rfl; have d1 := B.cell 1 _ rfl; have d2 := B.cell 2 _ rfl; have d3 := B.cell 3 _ rfl; have d4 := B.cell 4 _ rfl; have d5 := B.cell 5 _ rfl
  subst h1
  rw [if_pos rfl] at hfp
  generalize lowS TX = L at *
  generalize hse : sameB TX evenS = se at *
  generalize hso : sameB TX oddS = so at *
  clear hse hso
  rcases se with _ | _
  · rcases so with _ | _
    · have HX : Hid (findP ts = headR ts (headN ts q)) := Lib.hid (by rw [hfp, if_neg (by decide), if_neg (by decide)])
      clear hfp H10
      go_enter Tryz.func33, Tryz.ntmps33
      go_wp2_with fail
      rw [show w.alloc (Obj.cells #[.string ⟨#[]⟩, .string ⟨#[]⟩, .int .i64 0] 61) = W0 from HW0.out]
      refine f0.mono ?_
      rintro e wq ⟨rfl, hwq⟩; replace hwq := hwq.symm; subst hwq
      go_wp2_with (go_at_call 57; ((with_reducible refine (fL _).mono ?_); rintro e w2 ⟨rfl, hb2⟩; replace hbw := hbw.trans (hb2.mono hbw.size); replace B := B.later hb2 B.lt; replace R := R.later hb2 R.lt; have d0 := B.cell 0 _ rfl; have d1 := B.cell 1 _ rfl; have d2 := B.cell 2 _ rfl; have d3 := B.cell 3 _ rfl; have d4 := B.cell 4 _ rfl; have d5 := B.cell 5 _ rfl))
      have fH := HH0.out _ hbw
      generalize hH : headV2 (headN ts q) = HV at fH
      obtain ⟨A, rest, tz⟩ := HV
      dsimp only at fH
      refine fH.mono ?_
      rintro e w5 ⟨rfl, hb5⟩
      replace hbw := hbw.trans (hb5.mono hbw.size)
      replace R := R.later hb5 R.lt
      clear fH hb5 B
      rcases hN : headN ts q with _ | ⟨A', nm', z⟩
      · rw [hN] at hH
        cases hH
        have hR : Hid (cleanR (findP ts) = ((⟨#[]⟩, ⟨#[]⟩, 0), false)) := Lib.hid (by rw [HX.out, hN]; rfl)
        have r0 := R.cell 0 _ rfl; have r1 := R.cell 1 _ rfl; have r2 := R.cell 2 _ rfl; have y0 := R.frozen 0; have y1 := R.frozen 1; have y2 := R.frozen 2
        go_wp2_with fail
        refine bodyPost_ret (v := .tuple #[.agg #[.string ⟨#[]⟩, .string ⟨#[]⟩, .int .i64 (0)], .bool false]) (by simp [results, Tryz.results33, go_sem, r0, r1, r2]) rfl ⟨by rw [hR.out]; rfl, ?_⟩
        exact below_set3 hbw (Nat.le_refl _) _ _ _
      · obtain ⟨hz, hsz⟩ := HBD.out A' nm' z hN
        rw [hN] at hH
        have hH : (if hasN nm' = true then (A', cutN nm', ((z : Nat) : Int)) else (⟨#[]⟩, ⟨#[]⟩, -1)) = (A, rest, tz) := hH
        rcases hh : hasN nm' with _ | _
        · rw [if_neg (by rw [hh]; decide)] at hH
          cases hH
          have hR : Hid (cleanR (findP ts) = ((⟨#[]⟩, ⟨#[]⟩, 0), false)) := Lib.hid (by rw [HX.out, hN]; show cleanR (if hasN nm' = true then _ else _) = _; rw [if_neg (by rw [hh]; decide)]; rfl)
          have r0 := R.cell 0 _ rfl; have r1 := R.cell 1 _ rfl; have r2 := R.cell 2 _ rfl; have y0 := R.frozen 0; have y1 := R.frozen 1; have y2 := R.frozen 2
          go_wp2_with fail
          refine bodyPost_ret (v := .tuple #[.agg #[.string ⟨#[]⟩, .string ⟨#[]⟩, .int .i64 (0)], .bool false]) (by simp [results, Tryz.results33, go_sem, r0, r1, r2]) rfl ⟨by rw [hR.out]; rfl, ?_⟩
          exact below_set3 hbw (Nat.le_refl _) _ _ _
        · rw [if_pos hh] at hH
          have HY : Hid (findP ts = rowP ts A' (cutN nm') z) := Lib.hid (by rw [HX.out, hN]; show (if hasN nm' = true then _ else _) = _; rw [if_pos hh])
          have hrs : (cutN nm').size ≤ 900000 := Nat.le_trans (cutN_size nm') hsz
          obtain ⟨eA, eR, eT⟩ : A' = A ∧ cutN nm' = rest ∧ (z : Int) = tz := by cases hH; exact ⟨rfl, rfl, rfl⟩
          subst eA; subst eR; subst eT
          clear hH hN HX hsz hh HBD
          generalize cutN nm' = rest at *
          have fK := rskip_any ts n cap (some ⟨b, 0, none⟩) (z : Int) z w5 (HP.out.later hbw) HNN.out hsm rfl hz
          have hkn := (blF_le ts z).2 (by rw [HNN.out]; exact hz)
          rw [HNN.out] at hkn
          have hzn : ¬ (z : Int) < 0 := by omega
          generalize hk : blF ts z = k at *
          have fT := rnumber_any ts n cap (some ⟨b, 0, none⟩) (k : Int) k true w5 (HP.out.later hbw) HNN.out hsm rfl (HG.out k)
          have fF := rnumber_any ts n cap (some ⟨b, 0, none⟩) (k : Int) k false w5 (HP.out.later hbw) HNN.out hsm rfl (HG.out k)
          have HK := Lib.hid hk
          clear hk
          go_wp2_with fail
          refine fK.mono ?_
          rintro e wq ⟨rfl, hwq⟩; replace hwq := hwq.symm; subst hwq
          clear fK
          have e1 := empty_str rest
          have e2 := dash_str rest
          have r0 := R.cell 0 _ rfl; have r1 := R.cell 1 _ rfl; have r2 := R.cell 2 _ rfl; have y0 := R.frozen 0; have y1 := R.frozen 1; have y2 := R.frozen 2
          by_cases h0 : rest.size = 0
          · rw [decide_eq_true h0] at e1
            rcases hT : numD ts k true with _ | _
            · rw [hT] at fT
              by_cases hkl : k < n
              · have hkl' : (k : Int) < (n : Int) := by omega
                have g0 : w5.cell? ⟨b, k * 6, none⟩ = some (.int .i64 (tkAt ts k).kind) := HCS.out k hkl w5 hbw 0 _ rfl
                have g3 : w5.cell? ⟨b, k * 6 + 3, none⟩ = some (.string (txS (tkAt ts k))) := HCS.out k hkl w5 hbw 3 _ rfl
                by_cases h9 : (tkAt ts k).kind = 9
                · have p1 := one_str (txS (tkAt ts k)) 43
                  have p2 := one_str (txS (tkAt ts k)) 45
                  rw [h9] at g0
                  by_cases hsx : txS (tkAt ts k) = ⟨#[43]⟩ ∨ txS (tkAt ts k) = ⟨#[45]⟩
                  · have fS := rskip_any ts n cap (some ⟨b, 0, none⟩) ((k : Int) + 1) (k + 1) w5 (HP.out.later hbw) HNN.out hsm (by omega) (by omega)
                    have hmn := (blF_le ts (k + 1)).2 (by rw [HNN.out]; omega)
                    rw [HNN.out] at hmn
                    generalize hm : blF ts (k + 1) = m at *
                    have HMM := Lib.hid hm
                    clear hm
                    have fM := rnumber_any ts n cap (some ⟨b, 0, none⟩) (m : Int) m false w5 (HP.out.later hbw) HNN.out hsm rfl (HG.out m)
                    rcases hM : numD ts m false with _ | _
                    · have hR : Hid (cleanR (findP ts) = ((A', ⟨#[48]⟩, z), true)) := Lib.hid (by rw [HY.out, rowP_zero h0 (by rw [HK.out]; exact hT) (by rw [HK.out]; right; right; right; rw [HMM.out]; exact hM)]; rfl)
                      rw [hM] at fM
                      clear HY hT h9 hM
                      rcases hsx with hsx | hsx
                      · rw [decide_eq_true hsx] at p1
                        clear hsx p2
                        go_wp2_with (first | (go_at_call 56; ((with_reducible refine fS.mono ?_); rintro e wq ⟨rfl, hwq⟩; replace hwq := hwq.symm; subst hwq)) | (go_at_call 59; first | ((with_reducible refine fT.mono ?_); rintro e wq ⟨rfl, hwq⟩; replace hwq := hwq.symm; subst hwq) | ((with_reducible refine fM.mono ?_); rintro e wq ⟨rfl, hwq⟩; replace hwq := hwq.symm; subst hwq)))
                        refine bodyPost_ret (v := .tuple #[.agg #[.string A', .string ⟨#[48]⟩, .int .i64 (z : Nat)], .bool true]) (by simp [results, Tryz.results33, go_sem, r0, r1, r2]) rfl ⟨by rw [hR.out]; rfl, ?_⟩
                        exact below_set3 hbw (Nat.le_refl _) _ _ _
                      · rw [decide_eq_false (by rw [hsx]; decide)] at p1
                        rw [decide_eq_true hsx] at p2
                        clear hsx
                        go_wp2_with (first | (go_at_call 56; ((with_reducible refine fS.mono ?_); rintro e wq ⟨rfl, hwq⟩; replace hwq := hwq.symm; subst hwq)) | (go_at_call 59; first | ((with_reducible refine fT.mono ?_); rintro e wq ⟨rfl, hwq⟩; replace hwq := hwq.symm; subst hwq) | ((with_reducible refine fM.mono ?_); rintro e wq ⟨rfl, hwq⟩; replace hwq := hwq.symm; subst hwq)))
                        refine bodyPost_ret (v := .tuple #[.agg #[.string A', .string ⟨#[48]⟩, .int .i64 (z : Nat)], .bool true]) (by simp [results, Tryz.results33, go_sem, r0, r1, r2]) rfl ⟨by rw [hR.out]; rfl, ?_⟩
                        exact below_set3 hbw (Nat.le_refl _) _ _ _
                    · have hml := numD_lt hM
                      rw [HNN.out] at hml
                      have hml' : (m : Int) < (n : Int) := by omega
                      have g4 : w5.cell? ⟨b, m * 6 + 4, none⟩ = some (.string (nmT (tkAt ts m))) := HCS.out m hml w5 hbw 4 _ rfl
                      have hR : Hid (cleanR (findP ts) = ((A', txS (tkAt ts k) ++ nmT (tkAt ts m), m + 1), true)) := Lib.hid (by rw [HY.out, rowP_sign h0 (by rw [HK.out]; exact hT) (by rw [HK.out, HNN.out]; exact hkl) (by rw [HK.out]; exact h9) (by rw [HK.out]; exact hsx) (by rw [HK.out, HMM.out]; exact hM), HK.out, HMM.out]; rfl)
                      have hcat : ¬ 9223372036854775807 < (txS (tkAt ts k)).size + (nmT (tkAt ts m)).size := by have h1 := (HS.out k).1; have h2 := (HS.out m).2; omega
                      rw [hM] at fM
                      clear HY hT h9 hM
                      generalize nmT (tkAt ts m) = QN at *
                      rcases hsx with hsx | hsx
                      · rw [decide_eq_true hsx] at p1
                        clear p2 hsx
                        generalize txS (tkAt ts k) = QX at *
                        go_wp2_with (first | (go_at_call 56; ((with_reducible refine fS.mono ?_); rintro e wq ⟨rfl, hwq⟩; replace hwq := hwq.symm; subst hwq)) | (go_at_call 59; first | ((with_reducible refine fT.mono ?_); rintro e wq ⟨rfl, hwq⟩; replace hwq := hwq.symm; subst hwq) | ((with_reducible refine fM.mono ?_); rintro e wq ⟨rfl, hwq⟩; replace hwq := hwq.symm; subst hwq)))
                        go_region
                        all_goals
                          go_wp2_with fail
                          refine bodyPost_ret (v := .tuple #[.agg #[.string A', .string (QX ++ QN), .int .i64 (m + 1 : Nat)], .bool true]) (by simp [results, Tryz.results33, go_sem, r0, r1, r2]) rfl ⟨by rw [hR.out]; rfl, ?_⟩
                          exact below_set3 hbw.drew (Nat.le_refl _) _ _ _
                      · rw [decide_eq_false (by rw [hsx]; decide)] at p1
                        rw [decide_eq_true hsx] at p2
                        clear hsx
                        generalize txS (tkAt ts k) = QX at *
                        go_wp2_with (first | (go_at_call 56; ((with_reducible refine fS.mono ?_); rintro e wq ⟨rfl, hwq⟩; replace hwq := hwq.symm; subst hwq)) | (go_at_call 59; first | ((with_reducible refine fT.mono ?_); rintro e wq ⟨rfl, hwq⟩; replace hwq := hwq.symm; subst hwq) | ((with_reducible refine fM.mono ?_); rintro e wq ⟨rfl, hwq⟩; replace hwq := hwq.symm; subst hwq)))
                        go_region
                        all_goals
                          go_wp2_with fail
                          refine bodyPost_ret (v := .tuple #[.agg #[.string A', .string (QX ++ QN), .int .i64 (m + 1 : Nat)], .bool true]) (by simp [results, Tryz.results33, go_sem, r0, r1, r2]) rfl ⟨by rw [hR.out]; rfl, ?_⟩
                          exact below_set3 hbw.drew (Nat.le_refl _) _ _ _
                  · have hsx1 : txS (tkAt ts k) ≠ ⟨#[43]⟩ := fun h => hsx (.inl h)
                    have hsx2 : txS (tkAt ts k) ≠ ⟨#[45]⟩ := fun h => hsx (.inr h)
                    have hR : Hid (cleanR (findP ts) = ((A', ⟨#[48]⟩, z), true)) := Lib.hid (by rw [HY.out, rowP_zero h0 (by rw [HK.out]; exact hT) (by rw [HK.out]; exact .inr (.inr (.inl ⟨hsx1, hsx2⟩)))]; rfl)
                    rw [decide_eq_false hsx1] at p1
                    rw [decide_eq_false hsx2] at p2
                    clear HY hT h9 hsx hsx1 hsx2
                    generalize txS (tkAt ts k) = QX at *
                    go_wp2_with (go_at_call 59; first | ((with_reducible refine fT.mono ?_); rintro e wq ⟨rfl, hwq⟩; replace hwq := hwq.symm; subst hwq))
                    refine bodyPost_ret (v := .tuple #[.agg #[.string A', .string ⟨#[48]⟩, .int .i64 (z : Nat)], .bool true]) (by simp [results, Tryz.results33, go_sem, r0, r1, r2]) rfl ⟨by rw [hR.out]; rfl, ?_⟩
                    exact below_set3 hbw (Nat.le_refl _) _ _ _
                · have hR : Hid (cleanR (findP ts) = ((A', ⟨#[48]⟩, z), true)) := Lib.hid (by rw [HY.out, rowP_zero h0 (by rw [HK.out]; exact hT) (by rw [HK.out]; exact .inr (.inl h9))]; rfl)
                  have q9 : ((tkAt ts k).kind == 9) = false := beq_eq_false_iff_ne.2 h9
                  clear HY hT h9
                  generalize (tkAt ts k).kind = kk at *
                  go_wp2_with (go_at_call 59; first | ((with_reducible refine fT.mono ?_); rintro e wq ⟨rfl, hwq⟩; replace hwq := hwq.symm; subst hwq))
                  refine bodyPost_ret (v := .tuple #[.agg #[.string A', .string ⟨#[48]⟩, .int .i64 (z : Nat)], .bool true]) (by simp [results, Tryz.results33, go_sem, r0, r1, r2]) rfl ⟨by rw [hR.out]; rfl, ?_⟩
                  exact below_set3 hbw (Nat.le_refl _) _ _ _
              · have hkl' : ¬ (k : Int) < (n : Int) := by omega
                have hR : Hid (cleanR (findP ts) = ((A', ⟨#[48]⟩, z), true)) := Lib.hid (by rw [HY.out, rowP_zero h0 (by rw [HK.out]; exact hT) (by rw [HK.out, HNN.out]; exact .inl (by omega))]; rfl)
                clear HY hT
                go_wp2_with (go_at_call 59; first | ((with_reducible refine fT.mono ?_); rintro e wq ⟨rfl, hwq⟩; replace hwq := hwq.symm; subst hwq))
                refine bodyPost_ret (v := .tuple #[.agg #[.string A', .string ⟨#[48]⟩, .int .i64 (z : Nat)], .bool true]) (by simp [results, Tryz.results33, go_sem, r0, r1, r2]) rfl ⟨by rw [hR.out]; rfl, ?_⟩
                exact below_set3 hbw (Nat.le_refl _) _ _ _
            · have hkl := numD_lt hT
              rw [HNN.out] at hkl
              have hkl' : (k : Int) < (n : Int) := by omega
              have g4 : w5.cell? ⟨b, k * 6 + 4, none⟩ = some (.string (nmT (tkAt ts k))) := HCS.out k hkl w5 hbw 4 _ rfl
              have hR : Hid (cleanR (findP ts) = ((A', nmT (tkAt ts k), k + 1), true)) := Lib.hid (by rw [HY.out, rowP_whole h0 (by rw [HK.out]; exact hT), HK.out]; rfl)
              rw [hT] at fT
              clear HY hT
              generalize nmT (tkAt ts k) = QN at *
              go_wp2_with (go_at_call 59; first | ((with_reducible refine fT.mono ?_); rintro e wq ⟨rfl, hwq⟩; replace hwq := hwq.symm; subst hwq))
              refine bodyPost_ret (v := .tuple #[.agg #[.string A', .string QN, .int .i64 (k + 1 : Nat)], .bool true]) (by simp [results, Tryz.results33, go_sem, r0, r1, r2]) rfl ⟨by rw [hR.out]; rfl, ?_⟩
              exact below_set3 hbw (Nat.le_refl _) _ _ _
          rw [decide_eq_false h0] at e1
          by_cases h1 : rest = ⟨#[45]⟩
          · rw [decide_eq_true h1] at e2
            have hs1 : rest.size = 1 := by rw [h1]; rfl
            have hs1' : ¬ (1 : Int) < (rest.size : Int) := by omega
            rcases hF : numD ts k false with _ | _
            · have hR : Hid (cleanR (findP ts) = ((⟨#[]⟩, ⟨#[]⟩, 0), false)) := Lib.hid (by rw [HY.out]; exact cleanR_no (rowP_dash_no h1 (by rw [HK.out]; exact hF)))
              rw [hF] at fF
              clear HY hF h1
              go_wp2_with (go_at_call 59; first | ((with_reducible refine fF.mono ?_); rintro e wq ⟨rfl, hwq⟩; replace hwq := hwq.symm; subst hwq))
              refine bodyPost_ret (v := .tuple #[.agg #[.string ⟨#[]⟩, .string ⟨#[]⟩, .int .i64 (0)], .bool false]) (by simp [results, Tryz.results33, go_sem, r0, r1, r2]) rfl ⟨by rw [hR.out]; rfl, ?_⟩
              exact below_set3 hbw (Nat.le_refl _) _ _ _
            · have hkl := numD_lt hF
              rw [HNN.out] at hkl
              have hkl' : (k : Int) < (n : Int) := by omega
              have g4 : w5.cell? ⟨b, k * 6 + 4, none⟩ = some (.string (nmT (tkAt ts k))) := HCS.out k hkl w5 hbw 4 _ rfl
              have hR : Hid (cleanR (findP ts) = ((A', ⟨#[45]⟩ ++ nmT (tkAt ts k), k + 1), true)) := Lib.hid (by rw [HY.out, rowP_dash h1 (by rw [HK.out]; exact hF), HK.out]; rfl)
              have hk1 : (⟨#[45]⟩ : ByteArray).size = 1 := rfl
              have hcat : ¬ 9223372036854775807 < (⟨#[45]⟩ : ByteArray).size + (nmT (tkAt ts k)).size := by have h2 := (HS.out k).2; omega
              rw [hF] at fF
              clear HY hF h1
              generalize nmT (tkAt ts k) = QN at *
              go_wp2_with (go_at_call 59; first | ((with_reducible refine fF.mono ?_); rintro e wq ⟨rfl, hwq⟩; replace hwq := hwq.symm; subst hwq))
              try go_region
              all_goals
                try go_wp2_with fail
                first
                | (refine bodyPost_ret (v := .tuple #[.agg #[.string A', .string (⟨#[45]⟩ ++ QN), .int .i64 (k + 1 : Nat)], .bool true]) (by simp [results, Tryz.results33, go_sem, r0, r1, r2]) rfl ⟨by rw [hR.out]; rfl, ?_⟩; exact below_set3 hbw (Nat.le_refl _) _ _ _)
                | (refine bodyPost_ret (v := .tuple #[.agg #[.string A', .string (⟨#[45]⟩ ++ QN), .int .i64 (k + 1 : Nat)], .bool true]) (by simp [results, Tryz.results33, go_sem, r0, r1, r2]) rfl ⟨by rw [hR.out]; rfl, ?_⟩; exact below_set3 hbw.drew (Nat.le_refl _) _ _ _)
          rw [decide_eq_false h1] at e2
          have hpos : 0 < rest.size := by omega
          have hpos' : (0 : Int) < (rest.size : Int) := by omega
          have f45 := first_at rest hpos
          by_cases h2 : 1 < rest.size
          · have h2' : (1 : Int) < (rest.size : Int) := by omega
            have h2'' : (1 : Int) ≤ (rest.size : Int) := by omega
            rcases hf : firstB rest 45 with _ | _
            · rw [hf] at f45
              have hR : Hid (cleanR (findP ts) = ((⟨#[]⟩, ⟨#[]⟩, 0), false)) := Lib.hid (by rw [HY.out]; exact cleanR_no (by unfold rowP; rw [if_neg h0, if_neg h1, hf]; rfl))
              clear HY h1 hf
              go_wp2_with fail
              refine bodyPost_ret (v := .tuple #[.agg #[.string ⟨#[]⟩, .string ⟨#[]⟩, .int .i64 (0)], .bool false]) (by simp [results, Tryz.results33, go_sem, r0, r1, r2]) rfl ⟨by rw [hR.out]; rfl, ?_⟩
              exact below_set3 hbw (Nat.le_refl _) _ _ _
            · rw [hf] at f45
              have fG := fun w => rdigsA_any (rest.extract 1 rest.size) w (by have := tailS_size rest; show (tailS rest).size ≤ _; omega)
              have hsg : signedB rest = true := by unfold signedB; rw [hf]; simp
              have hnb : numB rest = digsB (rest.extract 1 rest.size) := by unfold numB; rw [hsg, if_pos rfl]; rfl
              rcases hd : digsB (rest.extract 1 rest.size) with _ | _
              · have hR : Hid (cleanR (findP ts) = ((⟨#[]⟩, ⟨#[]⟩, 0), false)) := Lib.hid (by rw [HY.out]; exact cleanR_no (by unfold rowP; rw [if_neg h0, if_neg h1, hf, hnb, hd]; rfl))
                rw [hd] at fG
                clear HY h1 hf hsg hnb hd
                generalize hTL : rest.extract 1 rest.size = TL at *
                go_wp2_with (go_at_call 60; ((with_reducible refine (fG _).mono ?_); rintro e wq ⟨rfl, hwq⟩; replace hwq := hwq.symm; subst hwq))
                refine bodyPost_ret (v := .tuple #[.agg #[.string ⟨#[]⟩, .string ⟨#[]⟩, .int .i64 (0)], .bool false]) (by simp [results, Tryz.results33, go_sem, r0, r1, r2]) rfl ⟨by rw [hR.out]; rfl, ?_⟩
                exact below_set3 hbw (Nat.le_refl _) _ _ _
              · have hR : Hid (cleanR (findP ts) = ((A', rest, z), true)) := Lib.hid (by rw [HY.out]; unfold rowP; rw [if_neg h0, if_neg h1, hf, hnb, hd]; rfl)
                rw [hd] at fG
                clear HY h1 hf hsg hnb hd
                generalize hTL : rest.extract 1 rest.size = TL at *
                go_wp2_with (go_at_call 60; ((with_reducible refine (fG _).mono ?_); rintro e wq ⟨rfl, hwq⟩; replace hwq := hwq.symm; subst hwq))
                refine bodyPost_ret (v := .tuple #[.agg #[.string A', .string rest, .int .i64 (z : Nat)], .bool true]) (by simp [results, Tryz.results33, go_sem, r0, r1, r2]) rfl ⟨by rw [hR.out]; rfl, ?_⟩
                exact below_set3 hbw (Nat.le_refl _) _ _ _
          · have h2' : ¬ (1 : Int) < (rest.size : Int) := by omega
            have hR : Hid (cleanR (findP ts) = ((⟨#[]⟩, ⟨#[]⟩, 0), false)) := Lib.hid (by
              rw [HY.out]
              apply cleanR_no
              unfold rowP
              rw [if_neg h0, if_neg h1]
              show (firstB rest 45 && numB rest) = false
              rcases hf : firstB rest 45 with _ | _
              · rfl
              · exact absurd (one_dash (by omega) hf) h1)
            clear HY h1
            go_wp2_with fail
            refine bodyPost_ret (v := .tuple #[.agg #[.string ⟨#[]⟩, .string ⟨#[]⟩, .int .i64 (0)], .bool false]) (by simp [results, Tryz.results33, go_sem, r0, r1, r2]) rfl ⟨by rw [hR.out]; rfl, ?_⟩
            exact below_set3 hbw (Nat.le_refl _) _ _ _
    · have hR : Hid (cleanR (findP ts) = ((⟨#[50]⟩, ⟨#[49]⟩, q + 1), true)) := Lib.hid (by rw [hfp, if_neg (by decide), if_pos rfl]; rfl)
      clear hfp H10 HH0 HBD
      go_enter Tryz.func33, Tryz.ntmps33
      go_wp2_with fail
      rw [show w.alloc (Obj.cells #[.string ⟨#[]⟩, .string ⟨#[]⟩, .int .i64 0] 61) = W0 from HW0.out]
      refine f0.mono ?_
      rintro e wq ⟨rfl, hwq⟩; replace hwq := hwq.symm; subst hwq
      go_wp2_with (go_at_call 57; ((with_reducible refine (fL _).mono ?_); rintro e w2 ⟨rfl, hb2⟩; replace hbw := hbw.trans (hb2.mono hbw.size); replace B := B.later hb2 B.lt; replace R := R.later hb2 R.lt; have d0 := B.cell 0 _ rfl; have d1 := B.cell 1 _ rfl; have d2 := B.cell 2 _ rfl; have d3 := B.cell 3 _ rfl; have d4 := B.cell 4 _ rfl; have d5 := B.cell 5 _ rfl; have r0 := R.cell 0 _ rfl; have r1 := R.cell 1 _ rfl; have r2 := R.cell 2 _ rfl; have y0 := R.frozen 0; have y1 := R.frozen 1; have y2 := R.frozen 2))
      refine bodyPost_ret (v := .tuple #[.agg #[.string ⟨#[50]⟩, .string ⟨#[49]⟩, .int .i64 (q + 1 : Nat)], .bool true]) (by simp [results, Tryz.results33, go_sem, r0, r1, r2]) rfl ⟨by rw [hR.out]; rfl, ?_⟩
      exact below_set3 hbw (Nat.le_refl _) _ _ _
  · have hR : Hid (cleanR (findP ts) = ((⟨#[50]⟩, ⟨#[48]⟩, q + 1), true)) := Lib.hid (by rw [hfp, if_pos rfl]; rfl)
    clear hfp H10 HH0 HBD
    go_enter Tryz.func33, Tryz.ntmps33
    go_wp2_with fail
    rw [show w.alloc (Obj.cells #[.string ⟨#[]⟩, .string ⟨#[]⟩, .int .i64 0] 61) = W0 from HW0.out]
    refine f0.mono ?_
    rintro e wq ⟨rfl, hwq⟩; replace hwq := hwq.symm; subst hwq
    go_wp2_with (go_at_call 57; ((with_reducible refine (fL _).mono ?_); rintro e w2 ⟨rfl, hb2⟩; replace hbw := hbw.trans (hb2.mono hbw.size); replace B := B.later hb2 B.lt; replace R := R.later hb2 R.lt; have d0 := B.cell 0 _ rfl; have d1 := B.cell 1 _ rfl; have d2 := B.cell 2 _ rfl; have d3 := B.cell 3 _ rfl; have d4 := B.cell 4 _ rfl; have d5 := B.cell 5 _ rfl; have r0 := R.cell 0 _ rfl; have r1 := R.cell 1 _ rfl; have r2 := R.cell 2 _ rfl; have y0 := R.frozen 0; have y1 := R.frozen 1; have y2 := R.frozen 2))
    refine bodyPost_ret (v := .tuple #[.agg #[.string ⟨#[50]⟩, .string ⟨#[48]⟩, .int .i64 (q + 1 : Nat)], .bool true]) (by simp [results, Tryz.results33, go_sem, r0, r1, r2]) rfl ⟨by rw [hR.out]; rfl, ?_⟩
    exact below_set3 hbw (Nat.le_refl _) _ _ _
end
end Go.Proofs.YtickcbmfboajiaaGreatDoor
