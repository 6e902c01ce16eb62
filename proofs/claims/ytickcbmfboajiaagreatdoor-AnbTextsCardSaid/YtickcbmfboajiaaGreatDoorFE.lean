/- Several texts of mine in one. -/
import Derived.Test.YtickcbmfboajiaaGreatDoorFD
import Derived.Test.YtickcbmfboajiaaGreatDoorShelfA
import Derived.Deep.RegionHeld3
namespace Go.Proofs.YtickcbmfboajiaaGreatDoor
section
open Go.RowKit Go.Shelf
set_option linter.unusedVariables false
set_option linter.unusedSimpArgs false

def txS (t : Tk) : ByteArray := strOfNums t.text
def nmT (t : Tk) : ByteArray := strOfNums t.num
/-- Tokens whose texts are no longer than so much. -/
def ShortT (ts : List Tk) : Prop := ∀ k, (txS (tkAt ts k)).size ≤ 900000 ∧ (nmT (tkAt ts k)).size ≤ 900000
/-- The B behind a head, and the place behind it. -/
def behindT (ts : List Tk) (z : Nat) : ByteArray × Nat :=
  if ts.length ≤ blF ts z then (⟨#[48]⟩, z)
  else if wholeT (tkAt ts (blF ts z)) 10 && signedB (nmT (tkAt ts (blF ts z))) then (nmT (tkAt ts (blF ts z)), blF ts z + 1)
  else if (signT (tkAt ts (blF ts z)) ⟨#[43]⟩ || signT (tkAt ts (blF ts z)) ⟨#[45]⟩) && plainT ts (blF ts (blF ts z + 1)) then
    (txS (tkAt ts (blF ts z)) ++ nmT (tkAt ts (blF ts (blF ts z + 1))), blF ts (blF ts z + 1) + 1)
  else (⟨#[48]⟩, z)
theorem blGo_le (ts : List Tk) : ∀ (f k : Nat), k ≤ blGo f ts k ∧ (k ≤ ts.length → blGo f ts k ≤ ts.length)
  | 0, k => ⟨Nat.le_refl _, fun h => h⟩
  | f + 1, k => by
    rw [blGo]
    by_cases h : (tkAt ts k).kind = 13
    · rw [if_pos h]
      have hk : k < ts.length := by
        rcases Nat.lt_or_ge k ts.length with h1 | h1
        · exact h1
        · unfold tkAt at h; rw [List.getElem?_eq_none h1] at h; exact absurd h (by decide)
      have := blGo_le ts f (k + 1)
      exact ⟨by omega, fun _ => this.2 (by omega)⟩
    · rw [if_neg h]; exact ⟨Nat.le_refl _, fun h => h⟩
theorem blF_le (ts : List Tk) (k : Nat) : k ≤ blF ts k ∧ (k ≤ ts.length → blF ts k ≤ ts.length) := blGo_le ts _ k
theorem ReadsT.lt {w : World} {b : Nat} {cap : Nat} {ts : List Tk} (h : ReadsT w (some ⟨b, 0, none⟩) cap ts) : b < w.heap.size := by
  obtain ⟨_, _, b', e, hb, _⟩ := h
  cases e; exact hb

set_option maxRecDepth 100000 in
set_option maxHeartbeats 4000000 in
theorem behind_any (ts : List Tk) (n cap : Nat) (a : Option Addr) (i : Int) (k : Nat) (w : World) (h : ReadsT w a cap ts) (hn : ts.length = n) (hsm : n ≤ 1000000) (hi : i = (k : Int)) (hk : k ≤ n) (hS : ShortT ts) :
    Calls Tryz.prog 101 #[.slice a n cap, .int .i64 i] w (Told (.tuple #[.string (behindT ts k).1, .int .i64 ((behindT ts k).2 : Nat)]) w) := by
  subst hi
  have hcap := h.1
  have hcap2 : cap ≤ 9223372036854775807 := h.2.1
  rw [hn] at hcap
  have f0 := ablanks_any ts n cap a (k : Int) k w h hn hsm rfl hk
  have hle := (blF_le ts k).2 (by rw [hn]; exact hk)
  rw [hn] at hle
  have HB := Lib.hid (show behindT ts k = _ from by unfold behindT; exact rfl)
  rw [hn] at HB
  generalize behindT ts k = R at *
  generalize hp : blF ts k = p at *
  clear hp
  by_cases hend : n ≤ p
  · obtain rfl : p = n := by omega
    have n0 : ((p : Int) == (p : Int)) = true := beq_self_eq_true _
    have hR : R = (⟨#[48]⟩, k) := by rw [HB.out, if_pos hend]
    clear HB h
    go_enter Tryz.func101, Tryz.ntmps101
    go_wp2_with (go_at_call 47; refine f0.mono ?_; rintro e wq ⟨rfl, hwq⟩; replace hwq := hwq.symm; subst hwq)
    go_ret2
    exact ⟨by rw [hR]; rfl, Below.refl _ _⟩
  have hpn : p < n := by omega
  have n0 : ((p : Int) == (n : Int)) = false := beq_eq_false_iff_ne.2 (by omega)
  have hpn' : (p : Int) < (n : Int) := by omega
  have HP := Lib.hid h
  obtain ⟨b, rfl, hc⟩ := h.at
  have hbl := h.lt
  have c0 : w.cell? ⟨b, p * 6, none⟩ = some (.int .i64 (tkAt ts p).kind) := hc p (by rw [hn]; exact hpn) 0 _ rfl
  have c1 := hc p (by rw [hn]; exact hpn) 1 _ rfl
  have c2 := hc p (by rw [hn]; exact hpn) 2 _ rfl
  have c3 := hc p (by rw [hn]; exact hpn) 3 _ rfl
  have c4 := hc p (by rw [hn]; exact hpn) 4 _ rfl
  have c5 := hc p (by rw [hn]; exact hpn) 5 _ rfl
  have fW := fun w => isWhole_any (tkAt ts p) 10 w (by have := (hS p).2; unfold nmT at this; omega)
  have fG := fun w => isSigned_any (strOfNums (tkAt ts p).num) w
  have fP := fun w => isSign_any (tkAt ts p) ⟨#[43]⟩ w
  have fM := fun w => isSign_any (tkAt ts p) ⟨#[45]⟩ w
  have hle2 := (blF_le ts (p + 1)).2 (by rw [hn]; omega)
  rw [hn] at hle2
  have hS0 := hS p
  have hS1 := hS (blF ts (p + 1))
  have fB := fun w' hb => ablanks_any ts n cap (some ⟨b, 0, none⟩) ((p : Int) + 1) (p + 1) w' (ReadsT.later (w := w) (w' := w') HP.out hb) hn hsm (by omega) (by omega)
  have fQ := fun w' hb => isPlain_any ts n cap (some ⟨b, 0, none⟩) ((blF ts (p + 1) : Nat) : Int) (blF ts (p + 1)) w' (ReadsT.later (w := w) (w' := w') HP.out hb) hn hsm rfl (by have := (hS (blF ts (p + 1))).2; unfold nmT at this; omega)
  have hsg : ∀ q, q = blF ts (p + 1) → plainT ts q = true → q < n := fun q hq h => by
    unfold plainT at h
    rw [Bool.and_eq_true, Bool.and_eq_true, decide_eq_true_iff, hn] at h
    exact h.1.1
  have hsg := hsg _ rfl
  have hcq : ∀ q, q < n → ∀ w' (hb : Below w.heap.size w w'), w'.cell? ⟨b, q * 6 + 4, none⟩ = some (.string (strOfNums (tkAt ts q).num)) := fun q hq w' hb => by
    obtain ⟨b', e, hc'⟩ := (HP.out.later hb).at
    cases e
    exact hc' q (by rw [hn]; exact hq) 4 _ rfl
  have HCQ := Lib.hid hcq
  have HSG := Lib.hid hsg
  have HFQ := Lib.hid fQ
  have HFB := Lib.hid fB
  unfold nmT txS at HB hS0 hS1
  unfold tkV tkCells at fW fP fM
  clear hc h hcq hsg fQ fB hS hn
  generalize blF ts (p + 1) = q at *
  have HS1 := Lib.hid hS1
  clear hS1
  generalize plainT ts q = r3 at *
  generalize wholeT (tkAt ts p) 10 = r0 at *
  generalize signedB (strOfNums (tkAt ts p).num) = r1 at *
  generalize signT (tkAt ts p) ⟨#[43]⟩ = s1 at *
  generalize signT (tkAt ts p) ⟨#[45]⟩ = s2 at *
  generalize tkAt ts p = t at *
  obtain ⟨kd, fr, to_, tx, nm, wh⟩ := t
  generalize strOfNums tx = TX at *
  generalize strOfNums nm = NM at *
  have hbA := (Below.refl w.heap.size w).alloc (Nat.le_refl _) (.cells [.int .i64 kd, .int .i64 fr, .int .i64 to_, .string TX, .string NM, .bool wh].toArray 32)
  have BA : Blk (w.alloc (.cells [.int .i64 kd, .int .i64 fr, .int .i64 to_, .string TX, .string NM, .bool wh].toArray 32)) w.heap.size [.int .i64 kd, .int .i64 fr, .int .i64 to_, .string TX, .string NM, .bool wh] 32 := Blk.alloc _ _
  go_enter Tryz.func101, Tryz.ntmps101
  go_wp2_with (go_at_call 47; refine f0.mono ?_; rintro e wq ⟨rfl, hwq⟩; replace hwq := hwq.symm; subst hwq)
  refine (fW _).mono ?_
  rintro e w1 ⟨rfl, hb1⟩
  have hbw1 := hbA.trans (hb1.mono (by simp))
  have B1 := BA.later hb1 (by simp)
  clear hbA BA hb1 c0 c1 c2 c3 c4 c5 f0 fW
  have d0 := B1.cell 0 _ rfl
  have d1 := B1.cell 1 _ rfl
  have d2 := B1.cell 2 _ rfl
  have d3 := B1.cell 3 _ rfl
  have d4 := B1.cell 4 _ rfl
  have d5 := B1.cell 5 _ rfl
  have fB := HFB.out w1 hbw1
  by_cases h01 : r0 = true ∧ r1 = true
  · obtain ⟨rfl, rfl⟩ := h01
    have hR : R = (NM, p + 1) := by rw [HB.out, if_neg hend]; rfl
    go_wp2_with (go_at_call 103; (with_reducible refine (fG _).mono ?_); rintro e wq ⟨rfl, hwq⟩; replace hwq := hwq.symm; subst hwq)
    go_ret2
    exact ⟨by rw [hR]; rfl, hbw1⟩
  have hR0 : (r0 && r1) = false := by revert h01; cases r0 <;> cases r1 <;> simp
  have HB2 : Hid (R = if (s1 || s2) && r3 then (TX ++ strOfNums (tkAt ts q).num, q + 1) else (⟨#[48]⟩, k)) := Lib.hid (by rw [HB.out, if_neg hend, if_neg (by rw [hR0]; decide)])
  have h4 : (s1 = true ∧ r3 = true) ∨ (s1 = false ∧ s2 = true ∧ r3 = true) ∨ (s1 = true ∧ r3 = false) ∨ (s1 = false ∧ s2 = true ∧ r3 = false) ∨ (s1 = false ∧ s2 = false) := by cases s1 <;> cases s2 <;> cases r3 <;> simp
  have h5 : (r0 = false) ∨ (r0 = true ∧ r1 = false) := by revert h01; cases r0 <;> cases r1 <;> simp
  clear h01 HB hR0 hend HFB
  rcases h4 with ⟨rfl, rfl⟩ | ⟨rfl, rfl, rfl⟩ | ⟨rfl, rfl⟩ | ⟨rfl, rfl, rfl⟩ | ⟨rfl, rfl⟩
  · have hR : R = (TX ++ strOfNums (tkAt ts q).num, q + 1) := HB2.out
    have hqn : q < n := HSG.out rfl
    have hqn' : (q : Int) < (n : Int) := by omega
    have hcat : ¬ 9223372036854775807 < TX.size + (strOfNums (tkAt ts q).num).size := by have h1 := hS0.1; have h2 := HS1.out.2; omega
    have hcq := fun w' hb => HCQ.out q hqn w' hb
    generalize strOfNums (tkAt ts q).num = QN at *
    rcases h5 with rfl | ⟨rfl, rfl⟩
    all_goals
      go_wp2_with (first
        | (go_at_call 103; (with_reducible refine (fG _).mono ?_); rintro e wq ⟨rfl, hwq⟩; replace hwq := hwq.symm; subst hwq)
        | (go_at_call 47; (with_reducible refine fB.mono ?_); rintro e wq ⟨rfl, hwq⟩; replace hwq := hwq.symm; subst hwq)
        | (go_at_call 99; ((with_reducible refine (fP _).mono ?_); rintro e w2 ⟨rfl, hb2⟩; have hbw2 := hbw1.trans (hb2.mono hbw1.size); have B2 := B1.later hb2 B1.lt; have d0 := B2.cell 0 _ rfl; have d1 := B2.cell 1 _ rfl; have d2 := B2.cell 2 _ rfl; have d3 := B2.cell 3 _ rfl; have d4 := B2.cell 4 _ rfl; have d5 := B2.cell 5 _ rfl))
        | (go_at_call 102; (with_reducible refine (HFQ.out _ hbw2).mono ?_); rintro e w4 ⟨rfl, hb4⟩; have hbw4 := hbw2.trans (hb4.mono hbw2.size); have B4 := B2.later hb4 B2.lt))
      have g3 := B4.cell 3 _ rfl
      have g4 := hcq w4 hbw4
      clear d0 d1 d2 d3 d4 d5
      go_quiet (fail)
      go_wp2
      go_ret2
      exact ⟨by rw [hR]; rfl, below_drewN hbw4 _⟩
  · have hR : R = (TX ++ strOfNums (tkAt ts q).num, q + 1) := HB2.out
    have hqn : q < n := HSG.out rfl
    have hqn' : (q : Int) < (n : Int) := by omega
    have hcat : ¬ 9223372036854775807 < TX.size + (strOfNums (tkAt ts q).num).size := by have h1 := hS0.1; have h2 := HS1.out.2; omega
    have hcq := fun w' hb => HCQ.out q hqn w' hb
    generalize strOfNums (tkAt ts q).num = QN at *
    rcases h5 with rfl | ⟨rfl, rfl⟩
    all_goals
      go_wp2_with (first
        | (go_at_call 103; (with_reducible refine (fG _).mono ?_); rintro e wq ⟨rfl, hwq⟩; replace hwq := hwq.symm; subst hwq)
        | (go_at_call 47; (with_reducible refine fB.mono ?_); rintro e wq ⟨rfl, hwq⟩; replace hwq := hwq.symm; subst hwq)
        | (go_at_call 99; first | ((with_reducible refine (fP _).mono ?_); rintro e w2 ⟨rfl, hb2⟩; have hbw2 := hbw1.trans (hb2.mono hbw1.size); have B2 := B1.later hb2 B1.lt; have d0 := B2.cell 0 _ rfl; have d1 := B2.cell 1 _ rfl; have d2 := B2.cell 2 _ rfl; have d3 := B2.cell 3 _ rfl; have d4 := B2.cell 4 _ rfl; have d5 := B2.cell 5 _ rfl) | ((with_reducible refine (fM _).mono ?_); rintro e w3 ⟨rfl, hb3⟩; have hbw3 := hbw2.trans (hb3.mono hbw2.size); have B3 := B2.later hb3 B2.lt))
        | (go_at_call 102; (with_reducible refine (HFQ.out _ hbw3).mono ?_); rintro e w4 ⟨rfl, hb4⟩; have hbw4 := hbw3.trans (hb4.mono hbw3.size); have B4 := B3.later hb4 B3.lt))
      have g3 := B4.cell 3 _ rfl
      have g4 := hcq w4 hbw4
      clear d0 d1 d2 d3 d4 d5
      go_quiet (fail)
      go_wp2
      go_ret2
      exact ⟨by rw [hR]; rfl, below_drewN hbw4 _⟩
  · have hR : R = (⟨#[48]⟩, k) := HB2.out
    rcases h5 with rfl | ⟨rfl, rfl⟩
    all_goals
      go_wp2_with (first
        | (go_at_call 103; (with_reducible refine (fG _).mono ?_); rintro e wq ⟨rfl, hwq⟩; replace hwq := hwq.symm; subst hwq)
        | (go_at_call 47; (with_reducible refine fB.mono ?_); rintro e wq ⟨rfl, hwq⟩; replace hwq := hwq.symm; subst hwq)
        | (go_at_call 99; ((with_reducible refine (fP _).mono ?_); rintro e w2 ⟨rfl, hb2⟩; have hbw2 := hbw1.trans (hb2.mono hbw1.size); have B2 := B1.later hb2 B1.lt; have d0 := B2.cell 0 _ rfl; have d1 := B2.cell 1 _ rfl; have d2 := B2.cell 2 _ rfl; have d3 := B2.cell 3 _ rfl; have d4 := B2.cell 4 _ rfl; have d5 := B2.cell 5 _ rfl))
        | (go_at_call 102; (with_reducible refine (HFQ.out _ hbw2).mono ?_); rintro e w4 ⟨rfl, hb4⟩; have hbw4 := hbw2.trans (hb4.mono hbw2.size); have B4 := B2.later hb4 B2.lt))
      go_ret2
      exact ⟨by rw [hR]; rfl, hbw4⟩
  · have hR : R = (⟨#[48]⟩, k) := HB2.out
    rcases h5 with rfl | ⟨rfl, rfl⟩
    all_goals
      go_wp2_with (first
        | (go_at_call 103; (with_reducible refine (fG _).mono ?_); rintro e wq ⟨rfl, hwq⟩; replace hwq := hwq.symm; subst hwq)
        | (go_at_call 47; (with_reducible refine fB.mono ?_); rintro e wq ⟨rfl, hwq⟩; replace hwq := hwq.symm; subst hwq)
        | (go_at_call 99; first | ((with_reducible refine (fP _).mono ?_); rintro e w2 ⟨rfl, hb2⟩; have hbw2 := hbw1.trans (hb2.mono hbw1.size); have B2 := B1.later hb2 B1.lt; have d0 := B2.cell 0 _ rfl; have d1 := B2.cell 1 _ rfl; have d2 := B2.cell 2 _ rfl; have d3 := B2.cell 3 _ rfl; have d4 := B2.cell 4 _ rfl; have d5 := B2.cell 5 _ rfl) | ((with_reducible refine (fM _).mono ?_); rintro e w3 ⟨rfl, hb3⟩; have hbw3 := hbw2.trans (hb3.mono hbw2.size); have B3 := B2.later hb3 B2.lt))
        | (go_at_call 102; (with_reducible refine (HFQ.out _ hbw3).mono ?_); rintro e w4 ⟨rfl, hb4⟩; have hbw4 := hbw3.trans (hb4.mono hbw3.size); have B4 := B3.later hb4 B3.lt))
      go_ret2
      exact ⟨by rw [hR]; rfl, hbw4⟩
  · have hR : R = (⟨#[48]⟩, k) := HB2.out
    rcases h5 with rfl | ⟨rfl, rfl⟩
    all_goals
      go_wp2_with (first
        | (go_at_call 103; (with_reducible refine (fG _).mono ?_); rintro e wq ⟨rfl, hwq⟩; replace hwq := hwq.symm; subst hwq)
        | (go_at_call 47; (with_reducible refine fB.mono ?_); rintro e wq ⟨rfl, hwq⟩; replace hwq := hwq.symm; subst hwq)
        | (go_at_call 99; first
            | ((with_reducible refine (fP _).mono ?_); rintro e w2 ⟨rfl, hb2⟩; have hbw2 := hbw1.trans (hb2.mono hbw1.size); have B2 := B1.later hb2 B1.lt; have d0 := B2.cell 0 _ rfl; have d1 := B2.cell 1 _ rfl; have d2 := B2.cell 2 _ rfl; have d3 := B2.cell 3 _ rfl; have d4 := B2.cell 4 _ rfl; have d5 := B2.cell 5 _ rfl)
            | ((with_reducible refine (fM _).mono ?_); rintro e w3 ⟨rfl, hb3⟩; have hbw3 := hbw2.trans (hb3.mono hbw2.size))))
      go_ret2
      exact ⟨by rw [hR]; rfl, hbw3⟩
end

section
open Go.RowKit Go.Shelf
set_option linter.unusedVariables false
set_option linter.unusedSimpArgs false

/-- A name behind its n, and whether it begins with one. -/
def cutN (s : ByteArray) : ByteArray := ⟨(Lib.trimPrefix s.data.toList [110]).toArray⟩
def hasN (s : ByteArray) : Bool := Lib.hasPrefix s.data.toList [110]
theorem cut_any (s : ByteArray) (w : World) : Calls Tryz.prog 100 #[.string s, .string ⟨#[110]⟩] w (Tells (.tuple #[.string (cutN s), .bool (hasN s)]) w) := Tryz.strings_CutPrefix s ⟨#[110]⟩ w
theorem below_set3 {B p : Nat} {w wr : World} (h : Below B w wr) (hp : B ≤ p) (v0 v1 v2 : Value) : Below B w (((wr.setCell ⟨p, 0, none⟩ v0).setCell ⟨p, 1, none⟩ v1).setCell ⟨p, 2, none⟩ v2) :=
  ((h.setCell (p := ⟨p, 0, none⟩) hp _).setCell (p := ⟨p, 1, none⟩) hp _).setCell (p := ⟨p, 2, none⟩) hp _
/-- A head: A's text, the name with its n, the place behind it. -/
def headN (ts : List Tk) (k : Nat) : Option (ByteArray × ByteArray × Nat) :=
  if wholeT (tkAt ts k) 12 = true then some (nmT (tkAt ts k), lowS (txS (tkAt ts k)), k + 1)
  else if (tkAt ts k).kind = 1 then (if firstB (lowS (txS (tkAt ts k))) 45 = true then some (⟨#[45, 49]⟩, tailS (lowS (txS (tkAt ts k))), k + 1) else some (⟨#[49]⟩, lowS (txS (tkAt ts k)), k + 1))
  else if (signT (tkAt ts k) ⟨#[43]⟩ && decide (k + 1 < ts.length) && decide ((tkAt ts (k + 1)).kind = 1)) = true then some (⟨#[49]⟩, lowS (txS (tkAt ts (k + 1))), k + 2)
  else none
def headV : Option (ByteArray × ByteArray × Nat) → Value
  | none => .tuple #[.agg #[.string ⟨#[]⟩, .string ⟨#[]⟩, .int .i64 0], .bool false]
  | some (a, nm, z) => .tuple #[.agg #[.string a, .string (cutN nm), .int .i64 z], .bool (hasN nm)]

set_option maxRecDepth 100000 in
set_option maxHeartbeats 8000000 in
theorem readHead_any (ts : List Tk) (n cap : Nat) (a : Option Addr) (i : Int) (k : Nat) (w : World) (h : ReadsT w a cap ts) (hn : ts.length = n) (hsm : n ≤ 1000000) (hi : i = (k : Int)) (hk : k < n) (hS : ShortT ts) :
    Calls Tryz.prog 50 #[.slice a n cap, .int .i64 i] w (Told (headV (headN ts k)) w) := by
  subst hi
  have hcap := h.1
  have hcap2 : cap ≤ 9223372036854775807 := h.2.1
  rw [hn] at hcap
  have HP := Lib.hid h
  obtain ⟨b, rfl, hc⟩ := h.at
  have hbl := h.lt
  have hk' : (k : Int) < (n : Int) := by omega
  have c3 := hc k (by rw [hn]; exact hk) 3 _ rfl
  have hcs : ∀ q, q < n → ∀ w' (hb : Below w.heap.size w w') j v, (tkCells (tkAt ts q))[j]? = some v → w'.cell? ⟨b, q * 6 + j, none⟩ = some v := fun q hq w' hb j v hv => by
    obtain ⟨b', e, hc'⟩ := (HP.out.later hb).at
    cases e
    exact hc' q (by rw [hn]; exact hq) j v hv
  have HCS := Lib.hid hcs
  have fW := fun w => isWhole_any (tkAt ts k) 12 w (by have := (hS k).2; unfold nmT at this; omega)
  have fP := fun w => isSign_any (tkAt ts k) ⟨#[43]⟩ w
  have fL := fun w => lower_any (strOfNums (tkAt ts k).text) w (by have := (hS k).1; unfold txS at this; omega)
  have fL2 := fun w => lower_any (strOfNums (tkAt ts (k + 1)).text) w (by have := (hS (k + 1)).1; unfold txS at this; omega)
  have fX := fun w => hasPrefix_one (lowS (strOfNums (tkAt ts k).text)) 45 w
  have fC := fun s w => cut_any s w
  have HB : Hid (headN ts k = _) := Lib.hid (by unfold headN; exact rfl)
  unfold nmT txS at HB
  rw [hn] at HB
  unfold tkV tkCells at fW fP
  generalize headN ts k = R at *
  have HK := Lib.hid (show ∀ j v, (tkCells (tkAt ts k))[j]? = some v → ∀ w' (hb : Below w.heap.size w w'), w'.cell? ⟨b, k * 6 + j, none⟩ = some v from fun j v hv w' hb => hcs k hk w' hb j v hv)
  have HK2 := Lib.hid (show k + 1 < n → ∀ j v, (tkCells (tkAt ts (k + 1)))[j]? = some v → ∀ w' (hb : Below w.heap.size w w'), w'.cell? ⟨b, (k + 1) * 6 + j, none⟩ = some v from fun h j v hv w' hb => hcs (k + 1) h w' hb j v hv)
  clear hcs hc h hS HCS hn
  generalize wholeT (tkAt ts k) 12 = ok0 at *
  generalize signT (tkAt ts k) ⟨#[43]⟩ = s1 at *
  generalize tkAt ts k = t at *
  generalize tkAt ts (k + 1) = t2 at *
  obtain ⟨kd, fr, to_, tx, nm, wh⟩ := t
  generalize hLW : lowS (strOfNums tx) = LW at *
  generalize hLW2 : lowS (strOfNums t2.text) = LW2 at *
  clear hLW hLW2
  generalize hW0 : w.alloc (.cells [.string ⟨#[]⟩, .string ⟨#[]⟩, .int .i64 0].toArray 80) = W0
  have hbW : Below w.heap.size w W0 := by rw [← hW0]; exact (Below.refl w.heap.size w).alloc (Nat.le_refl _) _
  have hBR : Blk W0 w.heap.size [.string ⟨#[]⟩, .string ⟨#[]⟩, .int .i64 0] 80 := by rw [← hW0]; exact Blk.alloc _ _
  have hZ : W0.heap.size = w.heap.size + 1 := by rw [← hW0]; simp
  have HW0 := Lib.hid hW0
  have c3 := HK.out 3 _ rfl W0 hbW
  clear hW0
  go_enter Tryz.func50, Tryz.ntmps50
  go_wp2_with fail
  rw [show w.alloc (Obj.cells #[.string ⟨#[]⟩, .string ⟨#[]⟩, .int .i64 0] 80) = W0 from HW0.out]
  refine (fL _).mono ?_
  rintro e w1 ⟨rfl, hb1⟩
  have hbw1 := hbW.trans (hb1.mono hbW.size)
  have hBR1 := hBR.later hb1 hBR.lt
  have c0 : w1.cell? ⟨b, k * 6, none⟩ = some (.int .i64 kd) := HK.out 0 _ rfl w1 hbw1
  have c1 := HK.out 1 _ rfl w1 hbw1
  have c2 := HK.out 2 _ rfl w1 hbw1
  have c3 := HK.out 3 _ rfl w1 hbw1
  have c4 := HK.out 4 _ rfl w1 hbw1
  have c5 := HK.out 5 _ rfl w1 hbw1
  have hbl1 : b < w1.heap.size := Nat.lt_of_lt_of_le hbl hbw1.size
  have hz1 : w.heap.size < w1.heap.size := by have := hb1.size; omega
  clear hbW hBR hZ hb1 HW0
  go_wp2_with fail
  have hbA := hbw1.alloc hbw1.size (.cells [.string ⟨#[49]⟩, .string ⟨#[]⟩, .int .i64 ((k : Int) + 1)].toArray 80)
  have hbB := hbA.alloc hbA.size (.cells [.int .i64 kd, .int .i64 fr, .int .i64 to_, .string (strOfNums tx), .string (strOfNums nm), .bool wh].toArray 32)
  have BA : Blk (w1.alloc (.cells [.string ⟨#[49]⟩, .string ⟨#[]⟩, .int .i64 ((k : Int) + 1)].toArray 80)) w1.heap.size [.string ⟨#[49]⟩, .string ⟨#[]⟩, .int .i64 ((k : Int) + 1)] 80 := Blk.alloc _ _
  have BAB := BA.alloc_old (.cells [.int .i64 kd, .int .i64 fr, .int .i64 to_, .string (strOfNums tx), .string (strOfNums nm), .bool wh].toArray 32)
  have BB := Blk.alloc (w := w1.alloc (.cells [.string ⟨#[49]⟩, .string ⟨#[]⟩, .int .i64 ((k : Int) + 1)].toArray 80)) [.int .i64 kd, .int .i64 fr, .int .i64 to_, .string (strOfNums tx), .string (strOfNums nm), .bool wh] 32
  rw [show (w1.alloc (.cells [.string ⟨#[49]⟩, .string ⟨#[]⟩, .int .i64 ((k : Int) + 1)].toArray 80)).heap.size = w1.heap.size + 1 from by simp] at BB
  have BRB := (hBR1.alloc_old (.cells [.string ⟨#[49]⟩, .string ⟨#[]⟩, .int .i64 ((k : Int) + 1)].toArray 80)).alloc_old (.cells [.int .i64 kd, .int .i64 fr, .int .i64 to_, .string (strOfNums tx), .string (strOfNums nm), .bool wh].toArray 32)
  refine (fW _).mono ?_
  rintro e w2 ⟨rfl, hb2⟩
  have BH2 := BAB.later hb2 BAB.lt
  have BT2 := BB.later hb2 BB.lt
  have BR2 := BRB.later hb2 BRB.lt
  have hbw2 := hbB.trans (hb2.mono hbB.size)
  clear hbA hbB BA BAB BB BRB hb2 hBR1 hbw1 c0 c1 c2 c3 c4 c5 hbl1 fW fL
  generalize w1.heap.size = p at *
  have hne1 : ¬ w.heap.size = p := by omega
  have hne2 : ¬ p = w.heap.size := by omega
  have d0 := BT2.cell 0 _ rfl; have d1 := BT2.cell 1 _ rfl; have d2 := BT2.cell 2 _ rfl; have d3 := BT2.cell 3 _ rfl; have d4 := BT2.cell 4 _ rfl; have d5 := BT2.cell 5 _ rfl; have a0 := BH2.cell 0 _ rfl; have a1 := BH2.cell 1 _ rfl; have a2 := BH2.cell 2 _ rfl; have x0 := BH2.frozen 0; have x1 := BH2.frozen 1; have x2 := BH2.frozen 2; have r0 := BR2.cell 0 _ rfl; have r1 := BR2.cell 1 _ rfl; have r2 := BR2.cell 2 _ rfl; have y0 := BR2.frozen 0; have y1 := BR2.frozen 1; have y2 := BR2.frozen 2
  have HBW := Lib.hid hbw2
  rcases ok0 with _ | _
  · by_cases hk1 : kd = 1
    · subst hk1
      rcases hf : firstB LW 45 with _ | _
      · have hR : R = some (⟨#[49]⟩, LW, k + 1) := by rw [HB.out, if_neg (by decide), if_pos rfl, if_neg (by rw [hf]; decide)]
        rw [hf] at fX
        clear HB hf
        go_wp2_with (first | (go_at_call 98; (with_reducible refine (fX _).mono ?_); rintro e wq ⟨rfl, hwq⟩; replace hwq := hwq.symm; subst hwq) | (go_at_call 100; (with_reducible refine (fC _ _).mono ?_); rintro e wq ⟨rfl, hwq⟩; replace hwq := hwq.symm; subst hwq))
        refine bodyPost_ret (v := .tuple #[.agg #[.string ⟨#[49]⟩, .string (cutN LW), .int .i64 (k + 1 : Nat)], .bool (hasN LW)]) (by simp [results, Tryz.results50, go_sem, r0, r1, r2, tailS]) rfl ⟨by first | (rw [hR]; rfl) | rfl, ?_⟩
        exact below_set3 (hbw2.setCell (p := ⟨p, 1, none⟩) (by show w.heap.size ≤ p; omega) _) (Nat.le_refl _) _ _ _
      · have hR : R = some (⟨#[45, 49]⟩, tailS LW, k + 1) := by rw [HB.out, if_neg (by decide), if_pos rfl, if_pos hf]
        have hsz : 1 ≤ LW.size := signedB_pos (by unfold signedB; rw [hf]; simp)
        have hsz' : (1 : Int) ≤ (LW.size : Int) := by omega
        rw [hf] at fX
        clear HB hf
        go_wp2_with (first | (go_at_call 98; (with_reducible refine (fX _).mono ?_); rintro e wq ⟨rfl, hwq⟩; replace hwq := hwq.symm; subst hwq) | (go_at_call 100; (with_reducible refine (fC _ _).mono ?_); rintro e wq ⟨rfl, hwq⟩; replace hwq := hwq.symm; subst hwq))
        go_region
        go_wp2_with (first | (go_at_call 100; (with_reducible refine (fC _ _).mono ?_); rintro e wq ⟨rfl, hwq⟩; replace hwq := hwq.symm; subst hwq))
        refine bodyPost_ret (v := .tuple #[.agg #[.string ⟨#[45, 49]⟩, .string (cutN (tailS LW)), .int .i64 (k + 1 : Nat)], .bool (hasN (tailS LW))]) (by simp [results, Tryz.results50, go_sem, r0, r1, r2, tailS]) rfl ⟨by first | (rw [hR]; rfl) | rfl, ?_⟩
        exact below_set3 (((hbw2.setCell (p := ⟨p, 0, none⟩) (by show w.heap.size ≤ p; omega) _).drew).setCell (p := ⟨p, 1, none⟩) (by show w.heap.size ≤ p; omega) _) (Nat.le_refl _) _ _ _
    · have q1 : (kd == 1) = false := beq_eq_false_iff_ne.2 hk1
      rcases s1 with _ | _
      · have hR : R = none := by rw [HB.out, if_neg (by decide), if_neg hk1, if_neg (by simp)]
        clear HB
        go_wp2_with (first | (go_at_call 99; (with_reducible refine (fP _).mono ?_); rintro e w3 ⟨rfl, hb3⟩; have hbw3 := hbw2.trans (hb3.mono hbw2.size); have BT3 := BT2.later hb3 BT2.lt; have BH3 := BH2.later hb3 BH2.lt; have BR3 := BR2.later hb3 BR2.lt; have d0 := BT3.cell 0 _ rfl; have d1 := BT3.cell 1 _ rfl; have d2 := BT3.cell 2 _ rfl; have d3 := BT3.cell 3 _ rfl; have d4 := BT3.cell 4 _ rfl; have d5 := BT3.cell 5 _ rfl; have a0 := BH3.cell 0 _ rfl; have a1 := BH3.cell 1 _ rfl; have a2 := BH3.cell 2 _ rfl; have x0 := BH3.frozen 0; have x1 := BH3.frozen 1; have x2 := BH3.frozen 2; have r0 := BR3.cell 0 _ rfl; have r1 := BR3.cell 1 _ rfl; have r2 := BR3.cell 2 _ rfl; have y0 := BR3.frozen 0; have y1 := BR3.frozen 1; have y2 := BR3.frozen 2))
        refine bodyPost_ret (v := .tuple #[.agg #[.string ⟨#[]⟩, .string ⟨#[]⟩, .int .i64 0], .bool false]) (by simp [results, Tryz.results50, go_sem, r0, r1, r2]) rfl ⟨by first | (rw [hR]; rfl) | rfl, ?_⟩
        exact below_set3 hbw3 (Nat.le_refl _) _ _ _
      · by_cases hkn : k + 1 < n
        · have hkn' : (k : Int) + 1 < (n : Int) := by omega
          have E0 : ∀ w' (hb : Below w.heap.size w w'), w'.cell? ⟨b, (k + 1) * 6, none⟩ = some (.int .i64 t2.kind) := fun w' hb => HK2.out hkn 0 _ rfl w' hb
          have E3 : ∀ w' (hb : Below w.heap.size w w'), w'.cell? ⟨b, (k + 1) * 6 + 3, none⟩ = some (.string (strOfNums t2.text)) := fun w' hb => HK2.out hkn 3 _ rfl w' hb
          by_cases hk2 : t2.kind = 1
          · have hR : R = some (⟨#[49]⟩, LW2, k + 2) := by rw [HB.out, if_neg (by decide), if_neg hk1, if_pos (by rw [decide_eq_true hkn, decide_eq_true hk2]; rfl)]
            rw [hk2] at E0
            clear HB hk2
            generalize strOfNums t2.text = T2 at *
            go_wp2_with (first | (go_at_call 99; (with_reducible refine (fP _).mono ?_); rintro e w3 ⟨rfl, hb3⟩; have hbw3 := hbw2.trans (hb3.mono hbw2.size); have BT3 := BT2.later hb3 BT2.lt; have BH3 := BH2.later hb3 BH2.lt; have BR3 := BR2.later hb3 BR2.lt; have d0 := BT3.cell 0 _ rfl; have d1 := BT3.cell 1 _ rfl; have d2 := BT3.cell 2 _ rfl; have d3 := BT3.cell 3 _ rfl; have d4 := BT3.cell 4 _ rfl; have d5 := BT3.cell 5 _ rfl; have a0 := BH3.cell 0 _ rfl; have a1 := BH3.cell 1 _ rfl; have a2 := BH3.cell 2 _ rfl; have x0 := BH3.frozen 0; have x1 := BH3.frozen 1; have x2 := BH3.frozen 2; have r0 := BR3.cell 0 _ rfl; have r1 := BR3.cell 1 _ rfl; have r2 := BR3.cell 2 _ rfl; have y0 := BR3.frozen 0; have y1 := BR3.frozen 1; have y2 := BR3.frozen 2; have e0 := E0 w3 hbw3; have e3 := E3 w3 hbw3) | (go_at_call 97; (with_reducible refine (fL2 _).mono ?_); rintro e w4 ⟨rfl, hb4⟩; have hbw4 := hbw3.trans (hb4.mono hbw3.size); have BH4 := BH3.later hb4 BH3.lt; have BR4 := BR3.later hb4 BR3.lt; have a0 := BH4.cell 0 _ rfl; have a1 := BH4.cell 1 _ rfl; have a2 := BH4.cell 2 _ rfl; have x0 := BH4.frozen 0; have x1 := BH4.frozen 1; have x2 := BH4.frozen 2; have r0 := BR4.cell 0 _ rfl; have r1 := BR4.cell 1 _ rfl; have r2 := BR4.cell 2 _ rfl; have y0 := BR4.frozen 0; have y1 := BR4.frozen 1; have y2 := BR4.frozen 2) | (go_at_call 100; (with_reducible refine (fC _ _).mono ?_); rintro e wq ⟨rfl, hwq⟩; replace hwq := hwq.symm; subst hwq))
            refine bodyPost_ret (v := .tuple #[.agg #[.string ⟨#[49]⟩, .string (cutN LW2), .int .i64 ((k : Int) + 1 + 1)], .bool (hasN LW2)]) (by simp [results, Tryz.results50, go_sem, r0, r1, r2, tailS]) rfl ⟨by first | (rw [hR]; rfl) | rfl, ?_⟩
            exact below_set3 ((hbw4.setCell (p := ⟨p, 2, none⟩) (by show w.heap.size ≤ p; omega) _).setCell (p := ⟨p, 1, none⟩) (by show w.heap.size ≤ p; omega) _) (Nat.le_refl _) _ _ _
          · have hR : R = none := by rw [HB.out, if_neg (by decide), if_neg hk1, if_neg (by rw [decide_eq_false hk2]; simp)]
            have hk2' : (t2.kind == 1) = false := beq_eq_false_iff_ne.2 hk2
            clear HB hk2
            generalize t2.kind = K2 at *
            go_wp2_with (first | (go_at_call 99; (with_reducible refine (fP _).mono ?_); rintro e w3 ⟨rfl, hb3⟩; have hbw3 := hbw2.trans (hb3.mono hbw2.size); have BT3 := BT2.later hb3 BT2.lt; have BH3 := BH2.later hb3 BH2.lt; have BR3 := BR2.later hb3 BR2.lt; have d0 := BT3.cell 0 _ rfl; have d1 := BT3.cell 1 _ rfl; have d2 := BT3.cell 2 _ rfl; have d3 := BT3.cell 3 _ rfl; have d4 := BT3.cell 4 _ rfl; have d5 := BT3.cell 5 _ rfl; have a0 := BH3.cell 0 _ rfl; have a1 := BH3.cell 1 _ rfl; have a2 := BH3.cell 2 _ rfl; have x0 := BH3.frozen 0; have x1 := BH3.frozen 1; have x2 := BH3.frozen 2; have r0 := BR3.cell 0 _ rfl; have r1 := BR3.cell 1 _ rfl; have r2 := BR3.cell 2 _ rfl; have y0 := BR3.frozen 0; have y1 := BR3.frozen 1; have y2 := BR3.frozen 2; have e0 := E0 w3 hbw3; have e3 := E3 w3 hbw3))
            refine bodyPost_ret (v := .tuple #[.agg #[.string ⟨#[]⟩, .string ⟨#[]⟩, .int .i64 0], .bool false]) (by simp [results, Tryz.results50, go_sem, r0, r1, r2]) rfl ⟨by first | (rw [hR]; rfl) | rfl, ?_⟩
            exact below_set3 hbw3 (Nat.le_refl _) _ _ _
        · have hR : R = none := by rw [HB.out, if_neg (by decide), if_neg hk1, if_neg (by rw [decide_eq_false hkn]; simp)]
          have hkn' : ¬ (k : Int) + 1 < (n : Int) := by omega
          clear HB
          go_wp2_with (first | (go_at_call 99; (with_reducible refine (fP _).mono ?_); rintro e w3 ⟨rfl, hb3⟩; have hbw3 := hbw2.trans (hb3.mono hbw2.size); have BT3 := BT2.later hb3 BT2.lt; have BH3 := BH2.later hb3 BH2.lt; have BR3 := BR2.later hb3 BR2.lt; have d0 := BT3.cell 0 _ rfl; have d1 := BT3.cell 1 _ rfl; have d2 := BT3.cell 2 _ rfl; have d3 := BT3.cell 3 _ rfl; have d4 := BT3.cell 4 _ rfl; have d5 := BT3.cell 5 _ rfl; have a0 := BH3.cell 0 _ rfl; have a1 := BH3.cell 1 _ rfl; have a2 := BH3.cell 2 _ rfl; have x0 := BH3.frozen 0; have x1 := BH3.frozen 1; have x2 := BH3.frozen 2; have r0 := BR3.cell 0 _ rfl; have r1 := BR3.cell 1 _ rfl; have r2 := BR3.cell 2 _ rfl; have y0 := BR3.frozen 0; have y1 := BR3.frozen 1; have y2 := BR3.frozen 2))
          refine bodyPost_ret (v := .tuple #[.agg #[.string ⟨#[]⟩, .string ⟨#[]⟩, .int .i64 0], .bool false]) (by simp [results, Tryz.results50, go_sem, r0, r1, r2]) rfl ⟨by first | (rw [hR]; rfl) | rfl, ?_⟩
          exact below_set3 hbw3 (Nat.le_refl _) _ _ _
  · have hR : R = some ((strOfNums nm), LW, k + 1) := by rw [HB.out, if_pos rfl]
    clear HB
    go_wp2_with (first | (go_at_call 100; (with_reducible refine (fC _ _).mono ?_); rintro e wq ⟨rfl, hwq⟩; replace hwq := hwq.symm; subst hwq))
    refine bodyPost_ret (v := .tuple #[.agg #[.string (strOfNums nm), .string (cutN LW), .int .i64 (k + 1 : Nat)], .bool (hasN LW)]) (by simp [results, Tryz.results50, go_sem, r0, r1, r2, tailS]) rfl ⟨by first | (rw [hR]; rfl) | rfl, ?_⟩
    exact below_set3 ((hbw2.setCell (p := ⟨p, 0, none⟩) (by show w.heap.size ≤ p; omega) _).setCell (p := ⟨p, 1, none⟩) (by show w.heap.size ≤ p; omega) _) (Nat.le_refl _) _ _ _
end

section
open Go.RowKit Go.Shelf
set_option linter.unusedVariables false
set_option linter.unusedSimpArgs false

/-- The longest row that begins with a head, and whether there is one. -/
def rowP (ts : List Tk) (A rest : ByteArray) (z : Nat) : (ByteArray × ByteArray × Nat) × Bool :=
  if rest.size = 0 then ((A, (behindT ts z).1, (behindT ts z).2), true)
  else if rest = ⟨#[45]⟩ then (if plainT ts (blF ts z) = true then ((A, ⟨#[45]⟩ ++ nmT (tkAt ts (blF ts z)), blF ts z + 1), true) else ((⟨#[]⟩, ⟨#[]⟩, 0), false))
  else ((A, rest, z), firstB rest 45 && numB rest)
def rowV (r : (ByteArray × ByteArray × Nat) × Bool) : Value := .tuple #[.agg #[.string r.1.1, .string r.1.2.1, .int .i64 (r.1.2.2 : Nat)], .bool r.2]
theorem empty_str (s : ByteArray) : s.toList.isEmpty = decide (s.size = 0) := by
  rw [ByteArray.toList_eq, Bool.eq_iff_iff, List.isEmpty_iff, decide_eq_true_iff, ← strB_len]
  exact List.length_eq_zero_iff.symm
theorem dash_str (s : ByteArray) : (s.toList == [45]) = decide (s = ⟨#[45]⟩) := by
  rw [ByteArray.toList_eq, Bool.eq_iff_iff, beq_iff_eq, decide_eq_true_iff]
  constructor
  · intro h; exact strB_inj h
  · intro h; rw [h]
theorem first_at (s : ByteArray) (h : 0 < s.size) : ((((s[0]'h).toNat : Nat) : Int) == 45) = firstB s 45 := by
  have e : (strB s)[0]? = some (s[0]'h) := by
    unfold strB
    rw [Array.getElem?_toList, Array.getElem?_eq_getElem (by exact h)]; rfl
  unfold firstB
  rw [e, Bool.eq_iff_iff, beq_iff_eq, decide_eq_true_iff, Option.some.injEq]
  constructor
  · intro hh
    apply UInt8.toNat_inj.1
    show (s[0]'h).toNat = 45
    omega
  · intro hh; rw [hh]; rfl

set_option maxRecDepth 100000 in
set_option maxHeartbeats 8000000 in
theorem row_any (ts : List Tk) (n cap : Nat) (a : Option Addr) (A rest : ByteArray) (z : Nat) (w : World) (h : ReadsT w a cap ts) (hn : ts.length = n) (hsm : n ≤ 1000000) (hz : z ≤ n) (hS : ShortT ts) (hrs : rest.size ≤ 1000000) :
    Calls Tryz.prog 51 #[.agg #[.string A, .string rest, .int .i64 z], .slice a n cap] w (Told (rowV (rowP ts A rest z)) w) := by
  have hcap := h.1
  have hcap2 : cap ≤ 9223372036854775807 := h.2.1
  rw [hn] at hcap
  have hbA := (Below.refl w.heap.size w).alloc (Nat.le_refl _) (.cells [.string A, .string rest, .int .i64 z].toArray 80)
  have hbB := hbA.alloc hbA.size (.cells [.string ⟨#[]⟩, .string ⟨#[]⟩, .int .i64 0].toArray 52)
  have hB := h.later hbB
  have HP := Lib.hid h
  have BA := (Blk.alloc (w := w) [.string A, .string rest, .int .i64 z] 80).alloc_old (.cells [.string ⟨#[]⟩, .string ⟨#[]⟩, .int .i64 0].toArray 52)
  have BB := Blk.alloc (w := w.alloc (.cells [.string A, .string rest, .int .i64 z].toArray 80)) [.string ⟨#[]⟩, .string ⟨#[]⟩, .int .i64 0] 52
  rw [show (w.alloc (.cells [.string A, .string rest, .int .i64 z].toArray 80)).heap.size = w.heap.size + 1 from by simp] at BB
  generalize hW1 : (w.alloc (.cells [.string A, .string rest, .int .i64 z].toArray 80)).alloc (.cells [.string ⟨#[]⟩, .string ⟨#[]⟩, .int .i64 0].toArray 52) = W1 at *
  have HW1 := Lib.hid hW1
  have e1 := empty_str rest
  have e2 := dash_str rest
  have fb := behind_any ts n cap a (z : Int) z W1 hB hn hsm rfl hz hS
  have fB := ablanks_any ts n cap a (z : Int) z W1 hB hn hsm rfl hz
  have hle := (blF_le ts z).2 (by rw [hn]; exact hz)
  rw [hn] at hle
  have fQ := isPlain_any ts n cap a ((blF ts z : Nat) : Int) (blF ts z) W1 hB hn hsm rfl (by have := (hS (blF ts z)).2; unfold nmT at this; omega)
  have hpl : plainT ts (blF ts z) = true → blF ts z < n := fun h => by
    unfold plainT at h
    rw [Bool.and_eq_true, Bool.and_eq_true, decide_eq_true_iff, hn] at h
    exact h.1.1
  have HPL := Lib.hid hpl
  have hS1 := (hS (blF ts z)).2
  unfold nmT at hS1
  have HS1 := Lib.hid hS1
  have hcs : ∀ q, q < n → ∀ w' (hb : Below w.heap.size w w'), ∃ b, a = some ⟨b, 0, none⟩ ∧ w'.cell? ⟨b, q * 6 + 4, none⟩ = some (.string (strOfNums (tkAt ts q).num)) := fun q hq w' hb => by
    obtain ⟨b', e, hc'⟩ := (HP.out.later hb).at
    exact ⟨b', e, hc' q (by rw [hn]; exact hq) 4 _ rfl⟩
  have HCS := Lib.hid hcs
  have hR : Hid (rowP ts A rest z = _) := Lib.hid (by unfold rowP; exact rfl)
  unfold nmT at hR
  generalize rowP ts A rest z = R at *
  clear hpl hS1 hcs hW1 hS hn hB h
  have B1 := BA
  have R1 := BB
  have hbw1 := hbB
  clear BA BB hbA hbB
  have a0 := B1.cell 0 _ rfl
  have a1 := B1.cell 1 _ rfl
  have a2 := B1.cell 2 _ rfl
  have r0 := R1.cell 0 _ rfl
  have r1 := R1.cell 1 _ rfl
  have r2 := R1.cell 2 _ rfl
  have y0 := R1.frozen 0
  have y1 := R1.frozen 1
  have y2 := R1.frozen 2
  generalize behindT ts z = BD at *
  generalize blF ts z = q at *
  by_cases h0 : rest.size = 0
  · have hR2 := Lib.hid (show R = ((A, BD.1, BD.2), true) from by rw [hR.out, if_pos h0])
    rw [decide_eq_true h0] at e1
    clear hR fB fQ h0
    go_enter Tryz.func51, Tryz.ntmps51
    go_wp2_with fail
    rw [show (w.alloc (Obj.cells #[.string A, .string rest, .int .i64 z] 80)).alloc (Obj.cells #[.string ⟨#[]⟩, .string ⟨#[]⟩, .int .i64 0] 52) = W1 from HW1.out]
    refine fb.mono ?_
    rintro e w2 ⟨rfl, hb2⟩
    have B2 := B1.later hb2 B1.lt
    have R2 := R1.later hb2 R1.lt
    have hbw2 := hbw1.trans (hb2.mono hbw1.size)
    clear a0 a1 a2 r0 r1 r2 y0 y1 y2
    have a0 := B2.cell 0 _ rfl
    have a1 := B2.cell 1 _ rfl
    have a2 := B2.cell 2 _ rfl
    have r0 := R2.cell 0 _ rfl
    have r1 := R2.cell 1 _ rfl
    have r2 := R2.cell 2 _ rfl
    have y0 := R2.frozen 0
    have y1 := R2.frozen 1
    have y2 := R2.frozen 2
    go_wp2
    refine bodyPost_ret (v := .tuple #[.agg #[.string A, .string BD.1, .int .i64 BD.2], .bool true]) (by simp [results, Tryz.results51, go_sem, r0, r1, r2]) rfl ⟨by rw [hR2.out]; rfl, ?_⟩
    exact below_set3 (hbw2) (by omega) _ _ _
  rw [decide_eq_false h0] at e1
  by_cases h1 : rest = ⟨#[45]⟩
  · rw [decide_eq_true h1] at e2
    clear fb
    rcases hpq : plainT ts q with _ | _
    · have hR2 := Lib.hid (show R = ((⟨#[]⟩, ⟨#[]⟩, 0), false) from by rw [hR.out, if_neg h0, if_pos h1, if_neg (by rw [hpq]; decide)])
      rw [hpq] at fQ
      clear hR h0 hpq h1
      go_enter Tryz.func51, Tryz.ntmps51
      go_wp2_with fail
      rw [show (w.alloc (Obj.cells #[.string A, .string rest, .int .i64 z] 80)).alloc (Obj.cells #[.string ⟨#[]⟩, .string ⟨#[]⟩, .int .i64 0] 52) = W1 from HW1.out]
      refine fB.mono ?_
      rintro e wq ⟨rfl, hwq⟩; replace hwq := hwq.symm; subst hwq
      go_wp2_with fail
      refine fQ.mono ?_
      rintro e w2 ⟨rfl, hb2⟩
      have B2 := B1.later hb2 B1.lt
      have R2 := R1.later hb2 R1.lt
      have hbw2 := hbw1.trans (hb2.mono hbw1.size)
      clear a0 a1 a2 r0 r1 r2 y0 y1 y2
      have a0 := B2.cell 0 _ rfl
      have a1 := B2.cell 1 _ rfl
      have a2 := B2.cell 2 _ rfl
      have r0 := R2.cell 0 _ rfl
      have r1 := R2.cell 1 _ rfl
      have r2 := R2.cell 2 _ rfl
      have y0 := R2.frozen 0
      have y1 := R2.frozen 1
      have y2 := R2.frozen 2
      go_wp2
      refine bodyPost_ret (v := .tuple #[.agg #[.string ⟨#[]⟩, .string ⟨#[]⟩, .int .i64 0], .bool false]) (by simp [results, Tryz.results51, go_sem, r0, r1, r2]) rfl ⟨by rw [hR2.out]; rfl, ?_⟩
      exact below_set3 (hbw2) (by omega) _ _ _
    · have hR2 := Lib.hid (show R = ((A, ⟨#[45]⟩ ++ strOfNums (tkAt ts q).num, q + 1), true) from by rw [hR.out, if_neg h0, if_pos h1, if_pos hpq])
      have hqn := HPL.out hpq
      have hqn' : (q : Int) < (n : Int) := by omega
      rw [hpq] at fQ
      clear hR h0 hpq h1
      have hk1 : (⟨#[45]⟩ : ByteArray).size = 1 := rfl
      have hcat : ¬ 9223372036854775807 < (⟨#[45]⟩ : ByteArray).size + (strOfNums (tkAt ts q).num).size := by have := HS1.out; omega
      go_enter Tryz.func51, Tryz.ntmps51
      go_wp2_with fail
      rw [show (w.alloc (Obj.cells #[.string A, .string rest, .int .i64 z] 80)).alloc (Obj.cells #[.string ⟨#[]⟩, .string ⟨#[]⟩, .int .i64 0] 52) = W1 from HW1.out]
      refine fB.mono ?_
      rintro e wq ⟨rfl, hwq⟩; replace hwq := hwq.symm; subst hwq
      go_wp2_with fail
      refine fQ.mono ?_
      rintro e w2 ⟨rfl, hb2⟩
      have B2 := B1.later hb2 B1.lt
      have R2 := R1.later hb2 R1.lt
      have hbw2 := hbw1.trans (hb2.mono hbw1.size)
      clear a0 a1 a2 r0 r1 r2 y0 y1 y2
      have a0 := B2.cell 0 _ rfl
      have a1 := B2.cell 1 _ rfl
      have a2 := B2.cell 2 _ rfl
      have r0 := R2.cell 0 _ rfl
      have r1 := R2.cell 1 _ rfl
      have r2 := R2.cell 2 _ rfl
      have y0 := R2.frozen 0
      have y1 := R2.frozen 1
      have y2 := R2.frozen 2
      obtain ⟨b, rfl, hcq⟩ := HCS.out q hqn w2 hbw2
      generalize strOfNums (tkAt ts q).num = QN at *
      go_wp2_with fail
      go_region
      all_goals
        go_wp2_with fail
        refine bodyPost_ret (v := .tuple #[.agg #[.string A, .string (⟨#[45]⟩ ++ QN), .int .i64 (q + 1 : Nat)], .bool true]) (by simp [results, Tryz.results51, go_sem, r0, r1, r2]) rfl ⟨by rw [hR2.out]; rfl, ?_⟩
        exact below_set3 (hbw2.drew) (by omega) _ _ _
  rw [decide_eq_false h1] at e2
  have hR2 := Lib.hid (show R = ((A, rest, z), firstB rest 45 && numB rest) from by rw [hR.out, if_neg h0, if_neg h1])
  have hpos : 0 < rest.size := by omega
  have hpos' : (0 : Int) < (rest.size : Int) := by omega
  have hf := first_at rest hpos
  have fN := fun w => isNumber_any rest w hrs
  clear hR fb fB fQ h0 h1
  go_enter Tryz.func51, Tryz.ntmps51
  go_wp2_with fail
  rw [show (w.alloc (Obj.cells #[.string A, .string rest, .int .i64 z] 80)).alloc (Obj.cells #[.string ⟨#[]⟩, .string ⟨#[]⟩, .int .i64 0] 52) = W1 from HW1.out]
  rcases hfv : firstB rest 45 with _ | _
  · rw [hfv] at hf hR2
    go_region
    all_goals
      go_wp2_with fail
      refine bodyPost_ret (v := .tuple #[.agg #[.string A, .string rest, .int .i64 z], .bool false]) (by simp [results, Tryz.results51, go_sem, r0, r1, r2]) rfl ⟨by rw [hR2.out]; rfl, ?_⟩
      exact (below_set3 hbw1 (by omega) _ _ _).drew
  · rw [hfv] at hf hR2
    have B1d : Blk W1.drew w.heap.size [.string A, .string rest, .int .i64 z] 80 := B1
    have R1d : Blk W1.drew (w.heap.size + 1) [.string ⟨#[]⟩, .string ⟨#[]⟩, .int .i64 0] 52 := R1
    have hbd : Below w.heap.size w W1.drew := hbw1.drew
    have a0d : W1.drew.cell? ⟨w.heap.size, 0, none⟩ = some (.string A) := a0
    have a1d : W1.drew.cell? ⟨w.heap.size, 1, none⟩ = some (.string rest) := a1
    have a2d : W1.drew.cell? ⟨w.heap.size, 2, none⟩ = some (.int .i64 z) := a2
    go_region_held3 (fun w' => w'.cell? ⟨w.heap.size, 0, none⟩ = some (.string A) ∧ w'.cell? ⟨w.heap.size, 1, none⟩ = some (.string rest) ∧ w'.cell? ⟨w.heap.size, 2, none⟩ = some (.int .i64 z)) (first | exact ⟨a0d, a1d, a2d⟩ | exact ⟨b0, b1, b2⟩ | exact ⟨t0, t1, t2⟩) (first | ((go_at_call 52); (with_reducible refine (fN _).mono ?_); rintro e w3 ⟨rfl, hb3⟩; have B3 := B1d.later hb3 B1d.lt; have R3 := R1d.later hb3 R1d.lt; have hbw3 := hbd.trans (hb3.mono hbd.size); have b0 := B3.cell 0 _ rfl; have b1 := B3.cell 1 _ rfl; have b2 := B3.cell 2 _ rfl; have B4 := ((B3.kept (grown_setCell w3 (w.heap.size + 1) 0 (.string A)) (by simp)).kept (grown_setCell _ (w.heap.size + 1) 1 (.string rest)) (by simp)).kept (grown_setCell _ (w.heap.size + 1) 2 (.int .i64 z)) (by simp); have t0 := B4.cell 0 _ rfl; have t1 := B4.cell 1 _ rfl; have t2 := B4.cell 2 _ rfl; have r0 := R3.cell 0 _ rfl; have r1 := R3.cell 1 _ rfl; have r2 := R3.cell 2 _ rfl; have y0 := R3.frozen 0; have y1 := R3.frozen 1; have y2 := R3.frozen 2))
    all_goals
      go_wp2_with fail
      refine bodyPost_ret (v := .tuple #[.agg #[.string A, .string rest, .int .i64 z], .bool (numB rest)]) (by simp [results, Tryz.results51, go_sem, r0, r1, r2]) rfl ⟨by rw [hR2.out]; rfl, ?_⟩
      exact below_set3 hbw3 (by omega) _ _ _
end

section
open Go.RowKit Go.Shelf
set_option linter.unusedVariables false
set_option linter.unusedSimpArgs false

def evenS : ByteArray := ⟨#[101, 118, 101, 110]⟩
def oddS : ByteArray := ⟨#[111, 100, 100]⟩
def headR (ts : List Tk) : Option (ByteArray × ByteArray × Nat) → (ByteArray × ByteArray × Nat) × Bool
  | none => ((⟨#[]⟩, ⟨#[]⟩, 0), false)
  | some (A, nm, z) => if hasN nm = true then rowP ts A (cutN nm) z else ((⟨#[]⟩, ⟨#[]⟩, 0), false)
/-- The longest row, and whether there is one. -/
def findP (ts : List Tk) : (ByteArray × ByteArray × Nat) × Bool :=
  if ts.length ≤ blF ts 0 then ((⟨#[]⟩, ⟨#[]⟩, 0), false)
  else if (decide ((tkAt ts (blF ts 0)).kind = 1) && sameB (txS (tkAt ts (blF ts 0))) evenS) = true then ((⟨#[50]⟩, ⟨#[48]⟩, blF ts 0 + 1), true)
  else if (decide ((tkAt ts (blF ts 0)).kind = 1) && sameB (txS (tkAt ts (blF ts 0))) oddS) = true then ((⟨#[50]⟩, ⟨#[49]⟩, blF ts 0 + 1), true)
  else if wholeT (tkAt ts (blF ts 0)) 10 = true then ((⟨#[48]⟩, nmT (tkAt ts (blF ts 0)), blF ts 0 + 1), true)
  else headR ts (headN ts (blF ts 0))
theorem cutN_size (s : ByteArray) : (cutN s).size ≤ s.size := by
  have h : (Lib.trimPrefix s.data.toList [110]).length ≤ s.data.toList.length := by unfold Lib.trimPrefix; split <;> simp
  have e : (cutN s).size = (Lib.trimPrefix s.data.toList [110]).length := by
    show ((Lib.trimPrefix s.data.toList [110]).toArray).size = _
    simp
  rw [e]
  exact Nat.le_trans h (by rw [Array.length_toList]; exact Nat.le_refl _)
theorem head_bd {ts : List Tk} {k : Nat} (hS : ShortT ts) (hk : k < ts.length) : ∀ A nm z, headN ts k = some (A, nm, z) → z ≤ ts.length ∧ nm.size ≤ 900000 := by
  intro A nm z h
  have h0 := (hS k).1
  have h1 := (hS (k + 1)).1
  unfold headN at h
  split at h
  · cases h; exact ⟨hk, by rw [lowS_size]; exact h0⟩
  · split at h
    · split at h
      · cases h; exact ⟨hk, by rw [tailS_size, lowS_size]; omega⟩
      · cases h; exact ⟨hk, by rw [lowS_size]; exact h0⟩
    · split at h
      · rename_i h3
        rw [Bool.and_eq_true, Bool.and_eq_true, decide_eq_true_iff] at h3
        cases h; exact ⟨h3.1.2, by rw [lowS_size]; exact h1⟩
      · cases h

set_option maxRecDepth 100000 in
set_option maxHeartbeats 8000000 in
theorem find_any (ts : List Tk) (n cap : Nat) (a : Option Addr) (w : World) (h : ReadsT w a cap ts) (hn : ts.length = n) (hsm : n ≤ 1000000) (hS : ShortT ts) :
    Calls Tryz.prog 29 #[.slice a n cap] w (Told (rowV (findP ts)) w) := by
  have hcap := h.1
  have hcap2 : cap ≤ 9223372036854775807 := h.2.1
  rw [hn] at hcap
  have HP := Lib.hid h
  have HN := Lib.hid hn
  have HS := Lib.hid hS
  have hbw0 := (Below.refl w.heap.size w).alloc (Nat.le_refl _) (.cells [.string ⟨#[]⟩, .string ⟨#[]⟩, .int .i64 0].toArray 52)
  have R0 : Blk (w.alloc (.cells [.string ⟨#[]⟩, .string ⟨#[]⟩, .int .i64 0].toArray 52)) w.heap.size [.string ⟨#[]⟩, .string ⟨#[]⟩, .int .i64 0] 52 := Blk.alloc _ _
  have hz0 : (w.alloc (.cells [.string ⟨#[]⟩, .string ⟨#[]⟩, .int .i64 0].toArray 52)).heap.size = w.heap.size + 1 := by simp
  generalize hW0 : w.alloc (.cells [.string ⟨#[]⟩, .string ⟨#[]⟩, .int .i64 0].toArray 52) = W0 at *
  have HW0 := Lib.hid hW0
  clear hW0
  have f0 := ablanks_any ts n cap a 0 0 _ (h.later hbw0) hn hsm rfl (by omega)
  have hR0 : Hid (findP ts = _) := Lib.hid (by unfold findP; exact rfl)
  have hle := (blF_le ts 0).2 (by omega)
  rw [hn] at hle hR0
  generalize findP ts = R at *
  generalize blF ts 0 = q at *
  by_cases hend : n ≤ q
  · obtain rfl : q = n := by omega
    have n0 : ((q : Int) == (q : Int)) = true := beq_self_eq_true _
    have hR : Hid (R = ((⟨#[]⟩, ⟨#[]⟩, 0), false)) := Lib.hid (by rw [hR0.out, if_pos hend])
    have r0 := R0.cell 0 _ rfl; have r1 := R0.cell 1 _ rfl; have r2 := R0.cell 2 _ rfl; have y0 := R0.frozen 0; have y1 := R0.frozen 1; have y2 := R0.frozen 2
    clear hR0 h hn
    go_enter Tryz.func29, Tryz.ntmps29
    go_wp2_with fail
    rw [show w.alloc (Obj.cells #[.string ⟨#[]⟩, .string ⟨#[]⟩, .int .i64 0] 52) = W0 from HW0.out]
    refine f0.mono ?_
    rintro e wq ⟨rfl, hwq⟩; replace hwq := hwq.symm; subst hwq
    go_wp2_with fail
    refine bodyPost_ret (v := .tuple #[.agg #[.string ⟨#[]⟩, .string ⟨#[]⟩, .int .i64 (0)], .bool false]) (by simp [results, Tryz.results29, go_sem, r0, r1, r2]) rfl ⟨by rw [hR.out]; rfl, ?_⟩
    exact below_set3 hbw0 (Nat.le_refl _) _ _ _
  have hq : q < n := by omega
  have hq' : (q : Int) < (n : Int) := by omega
  have n0 : ((q : Int) == (n : Int)) = false := beq_eq_false_iff_ne.2 (by omega)
  obtain ⟨b, ea, hc⟩ := (h.later hbw0).at
  have c0 := hc q (by rw [hn]; exact hq) 0 _ rfl
  have c1 := hc q (by rw [hn]; exact hq) 1 _ rfl
  have c2 := hc q (by rw [hn]; exact hq) 2 _ rfl
  have c3 := hc q (by rw [hn]; exact hq) 3 _ rfl
  have c4 := hc q (by rw [hn]; exact hq) 4 _ rfl
  have c5 := hc q (by rw [hn]; exact hq) 5 _ rfl
  have c0 : W0.cell? ⟨b, q * 6, none⟩ = some (.int .i64 (tkAt ts q).kind) := c0
  have hst := (hS q).1
  have fE := fun w => same_any (strOfNums (tkAt ts q).text) ⟨#[101, 118, 101, 110]⟩ w (by unfold txS at hst; omega)
  have fO := fun w => same_any (strOfNums (tkAt ts q).text) ⟨#[111, 100, 100]⟩ w (by unfold txS at hst; omega)
  have fW := fun w => isWhole_any (tkAt ts q) 10 w (by have := (hS q).2; unfold nmT at this; omega)
  have hR1 : Hid (R = if (decide ((tkAt ts q).kind = 1) && sameB (strOfNums (tkAt ts q).text) ⟨#[101, 118, 101, 110]⟩) = true then ((⟨#[50]⟩, ⟨#[48]⟩, q + 1), true)
      else if (decide ((tkAt ts q).kind = 1) && sameB (strOfNums (tkAt ts q).text) ⟨#[111, 100, 100]⟩) = true then ((⟨#[50]⟩, ⟨#[49]⟩, q + 1), true)
      else if wholeT (tkAt ts q) 10 = true then ((⟨#[48]⟩, strOfNums (tkAt ts q).num, q + 1), true) else headR ts (headN ts q)) := Lib.hid (by rw [hR0.out, if_neg hend]; rfl)
  unfold tkV tkCells at fW
  have hbl : b < w.heap.size := by
    have hx := h
    rw [ea] at hx
    exact hx.lt
  clear hR0 hend hc h hn hS hst
  generalize wholeT (tkAt ts q) 10 = ok0 at *
  generalize tkAt ts q = t at *
  obtain ⟨kd, fr, to_, tx, nm, wh⟩ := t
  have HW : Hid (a = some ⟨b, 0, none⟩) := Lib.hid ea
  have hbw1 := hbw0.alloc hbw0.size (.cells [.int .i64 kd, .int .i64 fr, .int .i64 to_, .string (strOfNums tx), .string (strOfNums nm), .bool wh].toArray 32)
  have R1 := R0.alloc_old (.cells [.int .i64 kd, .int .i64 fr, .int .i64 to_, .string (strOfNums tx), .string (strOfNums nm), .bool wh].toArray 32)
  have B1 : Blk (W0.alloc (.cells [.int .i64 kd, .int .i64 fr, .int .i64 to_, .string (strOfNums tx), .string (strOfNums nm), .bool wh].toArray 32)) (w.heap.size + 1) [.int .i64 kd, .int .i64 fr, .int .i64 to_, .string (strOfNums tx), .string (strOfNums nm), .bool wh] 32 := by rw [← hz0]; exact Blk.alloc _ _
  have d0 := B1.cell 0 _ rfl; have d1 := B1.cell 1 _ rfl; have d2 := B1.cell 2 _ rfl; have d3 := B1.cell 3 _ rfl; have d4 := B1.cell 4 _ rfl; have d5 := B1.cell 5 _ rfl; have r0 := R1.cell 0 _ rfl; have r1 := R1.cell 1 _ rfl; have r2 := R1.cell 2 _ rfl; have y0 := R1.frozen 0; have y1 := R1.frozen 1; have y2 := R1.frozen 2
  generalize hes : sameB (strOfNums tx) ⟨#[101, 118, 101, 110]⟩ = se at *
  generalize hos : sameB (strOfNums tx) ⟨#[111, 100, 100]⟩ = so at *
  clear hes hos
  subst ea
  go_enter Tryz.func29, Tryz.ntmps29
  go_wp2_with fail
  rw [show w.alloc (Obj.cells #[.string ⟨#[]⟩, .string ⟨#[]⟩, .int .i64 0] 52) = W0 from HW0.out]
  refine f0.mono ?_
  rintro e wq ⟨rfl, hwq⟩; replace hwq := hwq.symm; subst hwq
  clear f0 HW0
  have hbl0 : b < W0.heap.size := by omega
  by_cases hk1 : kd = 1
  · subst hk1
    rcases se with _ | _
    · rcases so with _ | _
      · have hR1 : Hid (R = if ok0 = true then ((⟨#[48]⟩, strOfNums nm, q + 1), true) else headR ts (headN ts q)) := Lib.hid (by rw [hR1.out, if_neg (show ¬ ((decide ((1 : Int) = 1) && false) = true) from by simp), if_neg (show ¬ ((decide ((1 : Int) = 1) && false) = true) from by simp)])
        go_wp2_with (go_at_call 48; first | ((with_reducible refine (fE _).mono ?_); rintro e w2 ⟨rfl, hb2⟩; have hbw2 := hbw1.trans (hb2.mono hbw1.size); have B2 := B1.later hb2 B1.lt; have R2 := R1.later hb2 R1.lt; have d0 := B2.cell 0 _ rfl; have d1 := B2.cell 1 _ rfl; have d2 := B2.cell 2 _ rfl; have d3 := B2.cell 3 _ rfl; have d4 := B2.cell 4 _ rfl; have d5 := B2.cell 5 _ rfl; have r0 := R2.cell 0 _ rfl; have r1 := R2.cell 1 _ rfl; have r2 := R2.cell 2 _ rfl; have y0 := R2.frozen 0; have y1 := R2.frozen 1; have y2 := R2.frozen 2) | ((with_reducible refine (fO _).mono ?_); rintro e w3 ⟨rfl, hb3⟩; have hbw3 := hbw2.trans (hb3.mono hbw2.size); have B3 := B2.later hb3 B2.lt; have R3 := R2.later hb3 R2.lt; have d0 := B3.cell 0 _ rfl; have d1 := B3.cell 1 _ rfl; have d2 := B3.cell 2 _ rfl; have d3 := B3.cell 3 _ rfl; have d4 := B3.cell 4 _ rfl; have d5 := B3.cell 5 _ rfl; have r0 := R3.cell 0 _ rfl; have r1 := R3.cell 1 _ rfl; have r2 := R3.cell 2 _ rfl; have y0 := R3.frozen 0; have y1 := R3.frozen 1; have y2 := R3.frozen 2))
        refine (fW _).mono ?_
        rintro e w4 ⟨rfl, hb4⟩
        have hbw4 : Below w.heap.size w w4 := by first | exact hbw3.trans (hb4.mono hbw3.size) | exact hbw1.trans (hb4.mono hbw1.size)
        have B4 : Blk w4 (w.heap.size + 1) [.int .i64 1, .int .i64 fr, .int .i64 to_, .string (strOfNums tx), .string (strOfNums nm), .bool wh] 32 := by first | exact B3.later hb4 B3.lt | exact B1.later hb4 B1.lt
        have R4 : Blk w4 w.heap.size [.string ⟨#[]⟩, .string ⟨#[]⟩, .int .i64 0] 52 := by first | exact R3.later hb4 R3.lt | exact R1.later hb4 R1.lt
        clear hb4
        have d0 := B4.cell 0 _ rfl; have d1 := B4.cell 1 _ rfl; have d2 := B4.cell 2 _ rfl; have d3 := B4.cell 3 _ rfl; have d4 := B4.cell 4 _ rfl; have d5 := B4.cell 5 _ rfl; have r0 := R4.cell 0 _ rfl; have r1 := R4.cell 1 _ rfl; have r2 := R4.cell 2 _ rfl; have y0 := R4.frozen 0; have y1 := R4.frozen 1; have y2 := R4.frozen 2
        rcases ok0 with _ | _
        · have hX : Hid (R = headR ts (headN ts q)) := Lib.hid (by rw [hR1.out]; simp)
          have fH := readHead_any ts n cap (some ⟨b, 0, none⟩) (q : Int) q w4 (HP.out.later hbw4) HN.out hsm rfl hq HS.out
          have hbd := head_bd (ts := ts) (k := q) HS.out (by rw [HN.out]; exact hq)
          rw [HN.out] at hbd
          have HBD := Lib.hid hbd
          clear hbd hR1
          generalize headN ts q = H at *
          go_wp2_with fail
          refine fH.mono ?_
          rintro e w5 ⟨rfl, hb5⟩
          have hbw5 := hbw4.trans (hb5.mono hbw4.size)
          have R5 := R4.later hb5 R4.lt
          have hlt5 : w.heap.size < w5.heap.size := R5.lt
          clear fH
          rcases H with _ | ⟨A, nm', z⟩
          · have hR : Hid (R = ((⟨#[]⟩, ⟨#[]⟩, 0), false)) := Lib.hid hX.out
            clear hX d0 d1 d2 d3 d4 d5 r0 r1 r2 y0 y1 y2
            have r0 := R5.cell 0 _ rfl; have r1 := R5.cell 1 _ rfl; have r2 := R5.cell 2 _ rfl; have y0 := R5.frozen 0; have y1 := R5.frozen 1; have y2 := R5.frozen 2
            unfold headV
            have hbw6 := hbw5.alloc hbw5.size (.cells [.string ⟨#[]⟩, .string ⟨#[]⟩, .int .i64 0].toArray 80)
            go_wp2_with fail
            refine bodyPost_ret (v := .tuple #[.agg #[.string ⟨#[]⟩, .string ⟨#[]⟩, .int .i64 (0)], .bool false]) (by simp [results, Tryz.results29, go_sem, r0, r1, r2, hlt5]) rfl ⟨by rw [hR.out]; rfl, ?_⟩
            exact (below_set3 hbw5 (Nat.le_refl _) _ _ _).alloc (by simp <;> omega) _
          · obtain ⟨hz, hsz⟩ := HBD.out A nm' z rfl
            clear HBD d0 d1 d2 d3 d4 d5 r0 r1 r2 y0 y1 y2
            have r0 := R5.cell 0 _ rfl; have r1 := R5.cell 1 _ rfl; have r2 := R5.cell 2 _ rfl; have y0 := R5.frozen 0; have y1 := R5.frozen 1; have y2 := R5.frozen 2
            unfold headV
            rcases hh : hasN nm' with _ | _
            · have hR : Hid (R = ((⟨#[]⟩, ⟨#[]⟩, 0), false)) := Lib.hid (by rw [hX.out]; show (if hasN nm' = true then _ else _) = _; rw [if_neg (by rw [hh]; decide)])
              have hbw6 := hbw5.alloc hbw5.size (.cells [.string A, .string (cutN nm'), .int .i64 z].toArray 80)
              clear hX
              go_wp2_with fail
              refine bodyPost_ret (v := .tuple #[.agg #[.string ⟨#[]⟩, .string ⟨#[]⟩, .int .i64 (0)], .bool false]) (by simp [results, Tryz.results29, go_sem, r0, r1, r2, hlt5]) rfl ⟨by rw [hR.out]; rfl, ?_⟩
              exact (below_set3 hbw5 (Nat.le_refl _) _ _ _).alloc (by simp <;> omega) _
            · have hX2 : Hid (R = rowP ts A (cutN nm') z) := Lib.hid (by rw [hX.out]; show (if hasN nm' = true then _ else _) = _; rw [if_pos hh])
              have hbw6 := hbw5.alloc hbw5.size (.cells [.string A, .string (cutN nm'), .int .i64 z].toArray 80)
              have R6 := R5.alloc_old (.cells [.string A, .string (cutN nm'), .int .i64 z].toArray 80)
              have fR := row_any ts n cap (some ⟨b, 0, none⟩) A (cutN nm') z _ (HP.out.later hbw6) HN.out hsm hz HS.out (Nat.le_trans (cutN_size nm') (by omega))
              clear hX
              go_wp2_with fail
              refine fR.mono ?_
              rintro e w7 ⟨rfl, hb7⟩
              have hbw7 := hbw6.trans (hb7.mono hbw6.size)
              have R7 := R6.later hb7 R6.lt
              clear fR hb7 r0 r1 r2 y0 y1 y2
              have r0 := R7.cell 0 _ rfl; have r1 := R7.cell 1 _ rfl; have r2 := R7.cell 2 _ rfl; have y0 := R7.frozen 0; have y1 := R7.frozen 1; have y2 := R7.frozen 2
              have hR := hX2
              generalize rowP ts A (cutN nm') z = V at *
              obtain ⟨⟨v0, v1, v2⟩, vf⟩ := V
              unfold rowV
              go_wp2_with fail
              refine bodyPost_ret (v := .tuple #[.agg #[.string v0, .string v1, .int .i64 (v2 : Nat)], .bool vf]) (by simp [results, Tryz.results29, go_sem, r0, r1, r2]) rfl ⟨by rw [hR.out]; rfl, ?_⟩
              exact below_set3 hbw7 (Nat.le_refl _) _ _ _
        · have hR : Hid (R = ((⟨#[48]⟩, strOfNums nm, q + 1), true)) := Lib.hid (by rw [hR1.out]; simp)
          clear hR1
          go_wp2_with fail
          refine bodyPost_ret (v := .tuple #[.agg #[.string ⟨#[48]⟩, .string (strOfNums nm), .int .i64 (q + 1 : Nat)], .bool true]) (by simp [results, Tryz.results29, go_sem, r0, r1, r2]) rfl ⟨by rw [hR.out]; rfl, ?_⟩
          exact below_set3 hbw4 (Nat.le_refl _) _ _ _
      · have hR : Hid (R = ((⟨#[50]⟩, ⟨#[49]⟩, q + 1), true)) := Lib.hid (by rw [hR1.out, if_neg (by simp), if_pos (by simp)])
        go_wp2_with (go_at_call 48; first | ((with_reducible refine (fE _).mono ?_); rintro e w2 ⟨rfl, hb2⟩; have hbw2 := hbw1.trans (hb2.mono hbw1.size); have B2 := B1.later hb2 B1.lt; have R2 := R1.later hb2 R1.lt; have d0 := B2.cell 0 _ rfl; have d1 := B2.cell 1 _ rfl; have d2 := B2.cell 2 _ rfl; have d3 := B2.cell 3 _ rfl; have d4 := B2.cell 4 _ rfl; have d5 := B2.cell 5 _ rfl; have r0 := R2.cell 0 _ rfl; have r1 := R2.cell 1 _ rfl; have r2 := R2.cell 2 _ rfl; have y0 := R2.frozen 0; have y1 := R2.frozen 1; have y2 := R2.frozen 2) | ((with_reducible refine (fO _).mono ?_); rintro e w3 ⟨rfl, hb3⟩; have hbw3 := hbw2.trans (hb3.mono hbw2.size); have B3 := B2.later hb3 B2.lt; have R3 := R2.later hb3 R2.lt; have d0 := B3.cell 0 _ rfl; have d1 := B3.cell 1 _ rfl; have d2 := B3.cell 2 _ rfl; have d3 := B3.cell 3 _ rfl; have d4 := B3.cell 4 _ rfl; have d5 := B3.cell 5 _ rfl; have r0 := R3.cell 0 _ rfl; have r1 := R3.cell 1 _ rfl; have r2 := R3.cell 2 _ rfl; have y0 := R3.frozen 0; have y1 := R3.frozen 1; have y2 := R3.frozen 2))
        refine bodyPost_ret (v := .tuple #[.agg #[.string ⟨#[50]⟩, .string ⟨#[49]⟩, .int .i64 (q + 1 : Nat)], .bool true]) (by simp [results, Tryz.results29, go_sem, r0, r1, r2]) rfl ⟨by rw [hR.out]; rfl, ?_⟩
        exact below_set3 hbw3 (Nat.le_refl _) _ _ _
    · have hR : Hid (R = ((⟨#[50]⟩, ⟨#[48]⟩, q + 1), true)) := Lib.hid (by rw [hR1.out, if_pos (by simp)])
      go_wp2_with (go_at_call 48; first | ((with_reducible refine (fE _).mono ?_); rintro e w2 ⟨rfl, hb2⟩; have hbw2 := hbw1.trans (hb2.mono hbw1.size); have B2 := B1.later hb2 B1.lt; have R2 := R1.later hb2 R1.lt; have d0 := B2.cell 0 _ rfl; have d1 := B2.cell 1 _ rfl; have d2 := B2.cell 2 _ rfl; have d3 := B2.cell 3 _ rfl; have d4 := B2.cell 4 _ rfl; have d5 := B2.cell 5 _ rfl; have r0 := R2.cell 0 _ rfl; have r1 := R2.cell 1 _ rfl; have r2 := R2.cell 2 _ rfl; have y0 := R2.frozen 0; have y1 := R2.frozen 1; have y2 := R2.frozen 2) | ((with_reducible refine (fO _).mono ?_); rintro e w3 ⟨rfl, hb3⟩; have hbw3 := hbw2.trans (hb3.mono hbw2.size); have B3 := B2.later hb3 B2.lt; have R3 := R2.later hb3 R2.lt; have d0 := B3.cell 0 _ rfl; have d1 := B3.cell 1 _ rfl; have d2 := B3.cell 2 _ rfl; have d3 := B3.cell 3 _ rfl; have d4 := B3.cell 4 _ rfl; have d5 := B3.cell 5 _ rfl; have r0 := R3.cell 0 _ rfl; have r1 := R3.cell 1 _ rfl; have r2 := R3.cell 2 _ rfl; have y0 := R3.frozen 0; have y1 := R3.frozen 1; have y2 := R3.frozen 2))
      refine bodyPost_ret (v := .tuple #[.agg #[.string ⟨#[50]⟩, .string ⟨#[48]⟩, .int .i64 (q + 1 : Nat)], .bool true]) (by simp [results, Tryz.results29, go_sem, r0, r1, r2]) rfl ⟨by rw [hR.out]; rfl, ?_⟩
      exact below_set3 hbw2 (Nat.le_refl _) _ _ _
  · have q1 : (kd == 1) = false := beq_eq_false_iff_ne.2 hk1
    replace hR1 : Hid (R = if ok0 = true then ((⟨#[48]⟩, strOfNums nm, q + 1), true) else headR ts (headN ts q)) := Lib.hid (by rw [hR1.out, if_neg (by rw [decide_eq_false hk1]; simp), if_neg (by rw [decide_eq_false hk1]; simp)])
    go_wp2_with fail
    refine (fW _).mono ?_
    rintro e w4 ⟨rfl, hb4⟩
    have hbw4 : Below w.heap.size w w4 := by first | exact hbw3.trans (hb4.mono hbw3.size) | exact hbw1.trans (hb4.mono hbw1.size)
    have B4 : Blk w4 (w.heap.size + 1) [.int .i64 kd, .int .i64 fr, .int .i64 to_, .string (strOfNums tx), .string (strOfNums nm), .bool wh] 32 := by first | exact B3.later hb4 B3.lt | exact B1.later hb4 B1.lt
    have R4 : Blk w4 w.heap.size [.string ⟨#[]⟩, .string ⟨#[]⟩, .int .i64 0] 52 := by first | exact R3.later hb4 R3.lt | exact R1.later hb4 R1.lt
    clear hb4
    have d0 := B4.cell 0 _ rfl; have d1 := B4.cell 1 _ rfl; have d2 := B4.cell 2 _ rfl; have d3 := B4.cell 3 _ rfl; have d4 := B4.cell 4 _ rfl; have d5 := B4.cell 5 _ rfl; have r0 := R4.cell 0 _ rfl; have r1 := R4.cell 1 _ rfl; have r2 := R4.cell 2 _ rfl; have y0 := R4.frozen 0; have y1 := R4.frozen 1; have y2 := R4.frozen 2
    rcases ok0 with _ | _
    · have hX : Hid (R = headR ts (headN ts q)) := Lib.hid (by rw [hR1.out]; simp)
      have fH := readHead_any ts n cap (some ⟨b, 0, none⟩) (q : Int) q w4 (HP.out.later hbw4) HN.out hsm rfl hq HS.out
      have hbd := head_bd (ts := ts) (k := q) HS.out (by rw [HN.out]; exact hq)
      rw [HN.out] at hbd
      have HBD := Lib.hid hbd
      clear hbd hR1
      generalize headN ts q = H at *
      go_wp2_with fail
      refine fH.mono ?_
      rintro e w5 ⟨rfl, hb5⟩
      have hbw5 := hbw4.trans (hb5.mono hbw4.size)
      have R5 := R4.later hb5 R4.lt
      have hlt5 : w.heap.size < w5.heap.size := R5.lt
      clear fH
      rcases H with _ | ⟨A, nm', z⟩
      · have hR : Hid (R = ((⟨#[]⟩, ⟨#[]⟩, 0), false)) := Lib.hid hX.out
        clear hX d0 d1 d2 d3 d4 d5 r0 r1 r2 y0 y1 y2
        have r0 := R5.cell 0 _ rfl; have r1 := R5.cell 1 _ rfl; have r2 := R5.cell 2 _ rfl; have y0 := R5.frozen 0; have y1 := R5.frozen 1; have y2 := R5.frozen 2
        unfold headV
        have hbw6 := hbw5.alloc hbw5.size (.cells [.string ⟨#[]⟩, .string ⟨#[]⟩, .int .i64 0].toArray 80)
        go_wp2_with fail
        refine bodyPost_ret (v := .tuple #[.agg #[.string ⟨#[]⟩, .string ⟨#[]⟩, .int .i64 (0)], .bool false]) (by simp [results, Tryz.results29, go_sem, r0, r1, r2, hlt5]) rfl ⟨by rw [hR.out]; rfl, ?_⟩
        exact (below_set3 hbw5 (Nat.le_refl _) _ _ _).alloc (by simp <;> omega) _
      · obtain ⟨hz, hsz⟩ := HBD.out A nm' z rfl
        clear HBD d0 d1 d2 d3 d4 d5 r0 r1 r2 y0 y1 y2
        have r0 := R5.cell 0 _ rfl; have r1 := R5.cell 1 _ rfl; have r2 := R5.cell 2 _ rfl; have y0 := R5.frozen 0; have y1 := R5.frozen 1; have y2 := R5.frozen 2
        unfold headV
        rcases hh : hasN nm' with _ | _
        · have hR : Hid (R = ((⟨#[]⟩, ⟨#[]⟩, 0), false)) := Lib.hid (by rw [hX.out]; show (if hasN nm' = true then _ else _) = _; rw [if_neg (by rw [hh]; decide)])
          have hbw6 := hbw5.alloc hbw5.size (.cells [.string A, .string (cutN nm'), .int .i64 z].toArray 80)
          clear hX
          go_wp2_with fail
          refine bodyPost_ret (v := .tuple #[.agg #[.string ⟨#[]⟩, .string ⟨#[]⟩, .int .i64 (0)], .bool false]) (by simp [results, Tryz.results29, go_sem, r0, r1, r2, hlt5]) rfl ⟨by rw [hR.out]; rfl, ?_⟩
          exact (below_set3 hbw5 (Nat.le_refl _) _ _ _).alloc (by simp <;> omega) _
        · have hX2 : Hid (R = rowP ts A (cutN nm') z) := Lib.hid (by rw [hX.out]; show (if hasN nm' = true then _ else _) = _; rw [if_pos hh])
          have hbw6 := hbw5.alloc hbw5.size (.cells [.string A, .string (cutN nm'), .int .i64 z].toArray 80)
          have R6 := R5.alloc_old (.cells [.string A, .string (cutN nm'), .int .i64 z].toArray 80)
          have fR := row_any ts n cap (some ⟨b, 0, none⟩) A (cutN nm') z _ (HP.out.later hbw6) HN.out hsm hz HS.out (Nat.le_trans (cutN_size nm') (by omega))
          clear hX
          go_wp2_with fail
          refine fR.mono ?_
          rintro e w7 ⟨rfl, hb7⟩
          have hbw7 := hbw6.trans (hb7.mono hbw6.size)
          have R7 := R6.later hb7 R6.lt
          clear fR hb7 r0 r1 r2 y0 y1 y2
          have r0 := R7.cell 0 _ rfl; have r1 := R7.cell 1 _ rfl; have r2 := R7.cell 2 _ rfl; have y0 := R7.frozen 0; have y1 := R7.frozen 1; have y2 := R7.frozen 2
          have hR := hX2
          generalize rowP ts A (cutN nm') z = V at *
          obtain ⟨⟨v0, v1, v2⟩, vf⟩ := V
          unfold rowV
          go_wp2_with fail
          refine bodyPost_ret (v := .tuple #[.agg #[.string v0, .string v1, .int .i64 (v2 : Nat)], .bool vf]) (by simp [results, Tryz.results29, go_sem, r0, r1, r2]) rfl ⟨by rw [hR.out]; rfl, ?_⟩
          exact below_set3 hbw7 (Nat.le_refl _) _ _ _
    · have hR : Hid (R = ((⟨#[48]⟩, strOfNums nm, q + 1), true)) := Lib.hid (by rw [hR1.out]; simp)
      clear hR1
      go_wp2_with fail
      refine bodyPost_ret (v := .tuple #[.agg #[.string ⟨#[48]⟩, .string (strOfNums nm), .int .i64 (q + 1 : Nat)], .bool true]) (by simp [results, Tryz.results29, go_sem, r0, r1, r2]) rfl ⟨by rw [hR.out]; rfl, ?_⟩
      exact below_set3 hbw4 (Nat.le_refl _) _ _ _
end
end Go.Proofs.YtickcbmfboajiaaGreatDoor
