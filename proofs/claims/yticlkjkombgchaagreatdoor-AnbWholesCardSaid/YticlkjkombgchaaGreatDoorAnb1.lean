/- The program's tests of tokens for an An+B: walks. -/
import Derived.Test.YticlkjkombgchaaGreatDoorR11
import Derived.Test.YticlkjkombgchaaGreatDoorNum
namespace Go.Proofs.YticlkjkombgchaaGreatDoor
open Go.RowKit

def noTk : Tk := ⟨-1, 0, 0, [], [], false⟩
def tkAt (ts : List Tk) (k : Nat) : Tk := ts[k]?.getD noTk
def wholeT (t : Tk) (kind : Int) : Bool := decide (t.kind = kind) && t.whole && numB (strOfNums t.num)
def signT (t : Tk) (s : ByteArray) : Bool := decide (t.kind = 9) && ((strOfNums t.text).toList == s.toList)
def plainT (ts : List Tk) (k : Nat) : Bool := decide (k < ts.length) && wholeT (tkAt ts k) 10 && !signedB (strOfNums (tkAt ts k).num)
def blGo : Nat → List Tk → Nat → Nat
  | 0, _, k => k
  | f + 1, ts, k => if (tkAt ts k).kind = 13 then blGo f ts (k + 1) else k
def blF (ts : List Tk) (k : Nat) : Nat := blGo (ts.length + 1) ts k

set_option maxRecDepth 100000 in
set_option maxHeartbeats 1000000 in
theorem isWhole_any (t : Tk) (kind : Int) (w : World) (hs : (strOfNums t.num).size ≤ 1000000) :
    Calls Tryz.prog 57 #[tkV t, .int .i64 kind] w (Told (.bool (wholeT t kind)) w) := by
  have hn := fun w => isNumber_any (strOfNums t.num) w hs
  have hq : (t.kind == kind) = decide (t.kind = kind) := rfl
  unfold wholeT tkV tkCells
  generalize numB (strOfNums t.num) = r2 at *
  generalize t.whole = r1 at *
  generalize decide (t.kind = kind) = r0 at *
  cases r0
  · go_enter Tryz.func57, Tryz.ntmps57
    go_wp2
    go_ret
    exact ⟨rfl, (Below.refl _ w).alloc (Nat.le_refl _) _⟩
  · cases r1
    · go_enter Tryz.func57, Tryz.ntmps57
      go_wp2
      go_ret
      exact ⟨rfl, (Below.refl _ w).alloc (Nat.le_refl _) _⟩
    · go_enter Tryz.func57, Tryz.ntmps57
      go_wp2_with (go_at_call 41; refine (hn _).mono ?_; rintro e w2 ⟨rfl, hb2⟩)
      go_ret
      exact ⟨rfl, ((Below.refl _ w).alloc (Nat.le_refl _) _).trans (hb2.mono (by simp))⟩

set_option maxRecDepth 100000 in
set_option maxHeartbeats 1000000 in
theorem isSign_any (t : Tk) (s : ByteArray) (w : World) :
    Calls Tryz.prog 108 #[tkV t, .string s] w (Told (.bool (signT t s)) w) := by
  have hq : (t.kind == 9) = decide (t.kind = 9) := rfl
  unfold signT tkV tkCells
  generalize decide (t.kind = 9) = r0 at *
  cases r0
  · go_enter Tryz.func108, Tryz.ntmps108
    go_wp2
    go_ret
    exact ⟨rfl, (Below.refl _ w).alloc (Nat.le_refl _) _⟩
  · go_enter Tryz.func108, Tryz.ntmps108
    go_wp2
    go_ret
    exact ⟨by first | rfl | simp, (Below.refl _ w).alloc (Nat.le_refl _) _⟩

/-- The cells of a token of a list. -/
theorem flat_cell : ∀ (ts : List Tk) (k : Nat) (_ : k < ts.length) (j : Nat) (v : Value), (tkCells (tkAt ts k))[j]? = some v → (ts.flatMap tkCells)[k * 6 + j]? = some v
  | [], k, h, _, _, _ => by simp at h
  | t :: ts, 0, _, j, v, hv => by
    have hj : j < (tkCells t).length := (List.getElem?_eq_some_iff.1 hv).1
    rw [List.flatMap_cons, List.getElem?_append_left (by simpa using hj)]
    have h0 : 0 * 6 + j = j := by omega
    rw [h0]
    exact hv
  | t :: ts, k + 1, h, j, v, hv => by
    have hl : (tkCells t).length = 6 := rfl
    rw [List.flatMap_cons, List.getElem?_append_right (by rw [hl]; omega), hl, show (k + 1) * 6 + j - 6 = k * 6 + j from by omega]
    exact flat_cell ts k (by simpa using h) j v hv
theorem ReadsT.at {w : World} {a : Option Addr} {cap : Nat} {ts : List Tk} (h : ReadsT w a cap ts) : ∃ b, a = some ⟨b, 0, none⟩ ∧ ∀ (k : Nat), k < ts.length → ∀ (j : Nat) (v : Value), (tkCells (tkAt ts k))[j]? = some v → w.cell? ⟨b, k * 6 + j, none⟩ = some v := by
  obtain ⟨_, _, b, rfl, _, hc⟩ := h
  exact ⟨b, rfl, fun k hk j v hv => hc _ _ (flat_cell ts k hk j v hv)⟩

set_option maxRecDepth 100000 in
set_option maxHeartbeats 1000000 in
theorem passBlanks_any (ts : List Tk) (n cap : Nat) (a : Option Addr) (i : Int) (k : Nat) (w : World) (h : ReadsT w a cap ts) (hn : ts.length = n) (_hsm : n ≤ 1000000) (hi : i = (k : Int)) (hk : k ≤ n) :
    Calls Tryz.prog 55 #[.slice a n cap, .int .i64 i] w (Tells (.int .i64 (blF ts k : Nat)) w) := by
  subst hi
  have hcap := h.1
  have hcap2 := h.2.1
  have hcap3 : cap ≤ 9223372036854775807 := hcap2
  obtain ⟨b, rfl, hc⟩ := h.at
  generalize hR : blF ts k = R
  unfold blF at hR
  rw [hn] at hR hcap
  have HR := Lib.hid hR; clear hR
  have HN := Lib.hid hn; clear hn h hcap2
  have hend : ∀ j, n ≤ j → ∀ f, blGo f ts j = j := fun j hj f => by
    cases f with
    | zero => rfl
    | succ f =>
      rw [blGo, if_neg]
      unfold tkAt
      rw [List.getElem?_eq_none (by rw [HN.out]; exact hj)]
      decide
  have HE := Lib.hid hend; clear hend
  have HC := Lib.hid hc; clear hc
  go_enter Tryz.func55, Tryz.ntmps55
  go_wp2_with fail
  go_loopw [1] (fun v wr => ∃ (f j : Nat), v = .int .i64 j ∧ Hid (blGo f ts j = R) ∧ n < j + f ∧ j ≤ n ∧ wr = w) (fun v _ => n - (intOf v).toNat)
  case atStart => exact ⟨n + 1, k, rfl, HR, by omega, hk, rfl⟩
  case round =>
    obtain ⟨f, j, rfl, hG, hf, hj, rfl⟩ := hrel
    by_cases hjn : j < n
    · have hjn' : (j : Int) < (n : Int) := by omega
      have c0 : wr.cell? ⟨b, j * 6, none⟩ = some (.int .i64 (tkAt ts j).kind) := HC.out j (by rw [HN.out]; exact hjn) 0 _ rfl
      obtain ⟨f, rfl⟩ : ∃ g, f = g + 1 := ⟨f - 1, by omega⟩
      by_cases h13 : (tkAt ts j).kind = 13
      · have hG2 : Hid (blGo f ts (j + 1) = R) := Lib.hid (by rw [← hG.out]; conv => rhs; rw [blGo, if_pos h13])
        rw [h13] at c0
        clear hG h13
        go_wp2
        go_roundw
        case rel => exact ⟨f, j + 1, by go_num, hG2, by omega, by omega, by first | rfl | trivial⟩
        case measure => simp [intOf]; omega
      · have hE : R = j := by rw [← hG.out, blGo, if_neg h13]
        have n13 : ((tkAt ts j).kind == 13) = false := beq_eq_false_iff_ne.2 h13
        clear hG h13
        generalize (tkAt ts j).kind = q at *
        go_wp2
        go_ret
        exact ⟨by rw [hE]; rfl, rfl⟩
    · have hE : R = j := by rw [← hG.out]; exact HE.out j (by omega) f
      have hjn' : ¬ (j : Int) < (n : Int) := by omega
      clear hG
      go_wp2
      go_ret
      exact ⟨by first | rfl | (rw [hE]; rfl), rfl⟩

set_option maxRecDepth 100000 in
set_option maxHeartbeats 1000000 in
theorem isPlain_any (ts : List Tk) (n cap : Nat) (a : Option Addr) (i : Int) (k : Nat) (w : World) (h : ReadsT w a cap ts) (hn : ts.length = n) (_hsm : n ≤ 1000000) (hi : i = (k : Int)) (hs : (strOfNums (tkAt ts k).num).size ≤ 1000000) :
    Calls Tryz.prog 111 #[.slice a n cap, .int .i64 i] w (Told (.bool (plainT ts k)) w) := by
  subst hi
  have hcap := h.1
  have hcap3 : cap ≤ 9223372036854775807 := h.2.1
  rw [hn] at hcap
  unfold plainT
  rw [hn]
  by_cases hkn : k < n
  · rw [decide_eq_true hkn, Bool.true_and]
    have hkn' : (k : Int) < (n : Int) := by omega
    have hlt : ∀ b, a = some ⟨b, 0, none⟩ → b < w.heap.size := fun b e => by obtain ⟨_, _, b', e', hb, _⟩ := h; rw [e] at e'; cases e'; exact hb
    obtain ⟨b, rfl, hc⟩ := h.at
    have hbl := hlt b rfl
    have c0 : w.cell? ⟨b, k * 6, none⟩ = some (.int .i64 (tkAt ts k).kind) := hc k (by rw [hn]; exact hkn) 0 _ rfl
    have c1 := hc k (by rw [hn]; exact hkn) 1 _ rfl
    have c2 := hc k (by rw [hn]; exact hkn) 2 _ rfl
    have c3 := hc k (by rw [hn]; exact hkn) 3 _ rfl
    have c4 := hc k (by rw [hn]; exact hkn) 4 _ rfl
    have c5 := hc k (by rw [hn]; exact hkn) 5 _ rfl
    have f0 := fun w => isWhole_any (tkAt ts k) 10 w hs
    have f1 := fun w => isSigned_any (strOfNums (tkAt ts k).num) w
    clear hc hlt h
    unfold tkV tkCells at f0
    generalize wholeT (tkAt ts k) 10 = r0 at *
    generalize signedB (strOfNums (tkAt ts k).num) = r1 at *
    generalize tkAt ts k = t at *
    cases r0
    · go_enter Tryz.func111, Tryz.ntmps111
      go_wp2_with (go_at_call 57; refine (f0 _).mono ?_; rintro e w2 ⟨rfl, hb2⟩)
      go_ret
      exact ⟨rfl, hb2⟩
    · cases r1
      all_goals
        go_enter Tryz.func111, Tryz.ntmps111
        go_wp2_with (first | (go_at_call 57; refine (f0 _).mono ?_; rintro e w2 ⟨rfl, hb2⟩; replace c4 := (hb2.cell (p := ⟨b, k * 6 + 4, none⟩) hbl).trans c4) | (go_at_call 71; refine (f1 _).mono ?_; rintro e w3 ⟨rfl, rfl⟩))
        go_ret
        exact ⟨rfl, hb2⟩
  · rw [decide_eq_false hkn]
    have hkn' : ¬ (k : Int) < (n : Int) := by omega
    go_enter Tryz.func111, Tryz.ntmps111
    go_wp2
    go_ret
    exact ⟨rfl, Below.refl _ _⟩
end Go.Proofs.YticlkjkombgchaaGreatDoor
