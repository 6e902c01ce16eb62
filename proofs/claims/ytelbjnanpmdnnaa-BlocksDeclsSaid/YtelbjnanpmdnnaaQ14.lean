/- Texts of mine in one: Name Tk Tm Num Ba0. -/
import Derived.Test.YtelbjnanpmdnnaaQ13
import Derived.Test.YtelbjnanpmdnnaaQ10
import Derived.Laws.IdiomStrings
import Derived.Test.YtelbjnanpmdnnaaQ02
namespace Go.Proofs.Ytelbjnanpmdnnaa
section
open Go.RowKit
def hexV (c : Int) : Int := if 48 ≤ c ∧ c ≤ 57 then c - 48 else if 97 ≤ smallF c ∧ smallF c ≤ 102 then smallF c - 87 else -1
set_option maxRecDepth 100000 in
set_option maxHeartbeats 1000000 in
theorem rspace_any (c : Int) (w : World) (hc : Ch c) : Calls Try.prog 48 #[.int .i64 c] w (Tells (.bool (spaceB c)) w) := by
  obtain ⟨h0, h1⟩ := hc
  rcases (show (c = 32) ∨ (c = 9) ∨ (c = 10) ∨ (c ≠ 32 ∧ c ≠ 9 ∧ c ≠ 10) from by omega) with rfl | rfl | rfl | ⟨q0, q1, q2⟩
  · go_enter Try.func48, Try.ntmps48
    go_wp2
    go_ret
    exact ⟨rfl, rfl⟩
  · go_enter Try.func48, Try.ntmps48
    go_wp2
    go_ret
    exact ⟨rfl, rfl⟩
  · go_enter Try.func48, Try.ntmps48
    go_wp2
    go_ret
    exact ⟨rfl, rfl⟩
  · rw [show spaceB c = false from decide_eq_false (by omega)]
    have n0 : (c == 32) = false := beq_eq_false_iff_ne.2 q0
    have n1 : (c == 9) = false := beq_eq_false_iff_ne.2 q1
    have n2 : (c == 10) = false := beq_eq_false_iff_ne.2 q2
    go_enter Try.func48, Try.ntmps48
    go_wp2
    go_ret
    exact ⟨rfl, rfl⟩
set_option maxRecDepth 100000 in
set_option maxHeartbeats 1000000 in
theorem rname_any (c : Int) (w : World) (hc : Ch c) : Calls Try.prog 76 #[.int .i64 c] w (Tells (.bool (nameB c)) w) := by
  have hs := fun w => rstart_any c w hc
  have hd := fun w => rdigit_any c w hc
  unfold nameB
  obtain ⟨h0, h1⟩ := hc
  by_cases h : c = 45
  · rw [show decide (c = 45) = true from decide_eq_true h]
    have n0 : (c == 45) = true := beq_iff_eq.2 h
    clear h
    generalize startB c = s at *
    generalize digitB c = d at *
    cases s <;> cases d
    all_goals
      go_enter Try.func76, Try.ntmps76
      go_wp2_with (first | (go_at_call 85; refine (hs _).mono ?_; rintro e w1 ⟨rfl, rfl⟩) | (go_at_call 84; refine (hd _).mono ?_; rintro e w1 ⟨rfl, rfl⟩))
      go_ret
      exact ⟨rfl, rfl⟩
  · rw [show decide (c = 45) = false from decide_eq_false h]
    have n0 : (c == 45) = false := beq_eq_false_iff_ne.2 h
    generalize startB c = s at *
    generalize digitB c = d at *
    cases s <;> cases d
    all_goals
      go_enter Try.func76, Try.ntmps76
      go_wp2_with (first | (go_at_call 85; refine (hs _).mono ?_; rintro e w1 ⟨rfl, rfl⟩) | (go_at_call 84; refine (hd _).mono ?_; rintro e w1 ⟨rfl, rfl⟩))
      go_ret
      exact ⟨rfl, rfl⟩
end

section
open Go.RowKit
def chA (l : List Int) (j : Nat) : Int := l[j]?.getD 0
def Pre (l : List Int) : Prop := ∀ c ∈ l, 1 ≤ c ∧ c < 1114112
theorem chA_end (l : List Int) (j : Nat) (h : l.length ≤ j) : chA l j = 0 := by unfold chA; rw [List.getElem?_eq_none h]; rfl
theorem chA_lt {l : List Int} (hl : Pre l) {j : Nat} (h : j < l.length) : 1 ≤ chA l j ∧ chA l j < 1114112 := by
  unfold chA; rw [List.getElem?_eq_getElem h]; exact hl _ (List.getElem_mem h)
theorem chA_ch {l : List Int} (hl : Pre l) (j : Nat) : Ch (chA l j) := by
  rcases Nat.lt_or_ge j l.length with h | h
  · have := chA_lt hl h; unfold Ch; omega
  · rw [chA_end l j h]; unfold Ch; omega
theorem lt_of_chA {l : List Int} {j : Nat} (h : chA l j ≠ 0) : j < l.length := by
  rcases Nat.lt_or_ge j l.length with h' | h'
  · exact h'
  · exact absurd (chA_end l j h') h
def isB (l : List Int) (j : Nat) (c : Int) : Bool := decide (chA l j = c)
def spB (l : List Int) (j : Nat) : Bool := spaceB (chA l j)
def dgB (l : List Int) (j : Nat) : Bool := digitB (chA l j)
def stB (l : List Int) (j : Nat) : Bool := startB (chA l j)
def nmB (l : List Int) (j : Nat) : Bool := nameB (chA l j)
def escB (l : List Int) (j : Nat) : Bool := isB l j 92 && !isB l (j + 1) 10
def hxB (l : List Int) (j : Nat) : Bool := decide (0 ≤ hexV (chA l j))
theorem isB_iff {l : List Int} {j : Nat} {c : Int} : isB l j c = true ↔ chA l j = c := by unfold isB; exact decide_eq_true_iff
theorem lt_of_isB {l : List Int} {j : Nat} {c : Int} (h : isB l j c = true) (hc : c ≠ 0) : j < l.length := lt_of_chA (by rw [isB_iff.1 h]; exact hc)
theorem lt_of_spB {l : List Int} {j : Nat} (h : spB l j = true) : j < l.length := lt_of_chA fun h0 => by unfold spB at h; rw [h0] at h; exact absurd h (by decide)
theorem lt_of_dgB {l : List Int} {j : Nat} (h : dgB l j = true) : j < l.length := lt_of_chA fun h0 => by unfold dgB at h; rw [h0] at h; exact absurd h (by decide)
theorem lt_of_stB {l : List Int} {j : Nat} (h : stB l j = true) : j < l.length := lt_of_chA fun h0 => by unfold stB at h; rw [h0] at h; exact absurd h (by decide)
theorem lt_of_nmB {l : List Int} {j : Nat} (h : nmB l j = true) : j < l.length := lt_of_chA fun h0 => by unfold nmB at h; rw [h0] at h; exact absurd h (by decide)
theorem lt_of_hxB {l : List Int} {j : Nat} (h : hxB l j = true) : j < l.length := lt_of_chA fun h0 => by unfold hxB at h; rw [h0] at h; exact absurd h (by decide)
theorem lt_of_escB {l : List Int} {j : Nat} (h : escB l j = true) : j < l.length := lt_of_isB (by unfold escB at h; rw [Bool.and_eq_true] at h; exact h.1) (by decide)
def hexGo : Nat → List Int → Nat → Int → Int × Nat
  | 0, _, i, n => (n, i)
  | f + 1, l, i, n => if hxB l i then hexGo f l (i + 1) (16 * n + hexV (chA l i)) else (n, i)
def cleanF (c : Int) : Int := if c = 0 then 65533 else charOf c
def valueF (l : List Int) (j : Nat) : Int × Nat :=
  if l.length ≤ j + 1 then (65533, j + 1)
  else if (hexGo 6 l (j + 1) 0).2 = j + 1 then (chA l (j + 1), j + 2)
  else (cleanF (hexGo 6 l (j + 1) 0).1, if spB l (hexGo 6 l (j + 1) 0).2 then (hexGo 6 l (j + 1) 0).2 + 1 else (hexGo 6 l (j + 1) 0).2)
def nameAt (l : List Int) (j : Nat) : Bool := if isB l j 45 then isB l (j + 1) 45 || stB l (j + 1) || escB l (j + 1) else stB l j || escB l j
def signAt (l : List Int) (j : Nat) : Nat := if isB l j 43 || isB l j 45 then j + 1 else j
def fracAt (l : List Int) (j : Nat) : Bool := isB l j 46 && dgB l (j + 1)
def numAt (l : List Int) (j : Nat) : Bool := dgB l (signAt l j) || fracAt l (signAt l j)
def namesGo : Nat → List Int → Nat → List Int → List Int × Nat
  | 0, _, j, out => (out, j)
  | f + 1, l, j, out => if nmB l j then namesGo f l (j + 1) (out ++ [chA l j]) else if escB l j then namesGo f l (valueF l j).2 (out ++ [(valueF l j).1]) else (out, j)
def namesF (l : List Int) (j : Nat) : List Int × Nat := namesGo (l.length + 1) l j []
def digitsGo : Nat → List Int → Nat → Nat
  | 0, _, j => j
  | f + 1, l, j => if dgB l j then digitsGo f l (j + 1) else j
def digitsF (l : List Int) (j : Nat) : Nat := digitsGo (l.length + 1) l j
def spacesGo : Nat → List Int → Nat → Nat
  | 0, _, j => j
  | f + 1, l, j => if spB l j then spacesGo f l (j + 1) else j
def spacesF (l : List Int) (j : Nat) : Nat := spacesGo (l.length + 1) l j
def expoB (l : List Int) (j : Nat) : Bool := (isB l j 101 || isB l j 69) && dgB l (signAt l (j + 1))
def expoF (l : List Int) (j : Nat) : Nat := if expoB l j then digitsF l (signAt l (j + 1)) else j
def fracF (l : List Int) (j : Nat) : Nat := if fracAt l j then digitsF l (j + 1) else j
def numberF (l : List Int) (j : Nat) : Nat × Bool :=
  (expoF l (fracF l (digitsF l (signAt l j))), !fracAt l (digitsF l (signAt l j)) && !expoB l (fracF l (digitsF l (signAt l j))))
structure Tk where
  kind : Int
  frm : Nat
  to : Nat
  text : List Int
  num : List Int
  whole : Bool
deriving DecidableEq
def bytesF (l : List Int) : List Int := textF (l.map cleanF)
def sliceF (l : List Int) (i j : Nat) : List Int := (l.drop i).take (j - i)
def numericF (l : List Int) (j : Nat) : Tk :=
  if nameAt l (numberF l j).1 then ⟨12, j, (namesF l (numberF l j).1).2, bytesF (namesF l (numberF l j).1).1, bytesF (sliceF l j (numberF l j).1), (numberF l j).2⟩
  else if isB l (numberF l j).1 37 then ⟨11, j, (numberF l j).1 + 1, [], bytesF (sliceF l j (numberF l j).1), (numberF l j).2⟩
  else ⟨10, j, (numberF l j).1, [], bytesF (sliceF l j (numberF l j).1), (numberF l j).2⟩
def quotedGo : Nat → List Int → Int → Nat → Nat → List Int → Tk
  | 0, _, _, frm, i, out => ⟨5, frm, i, bytesF out, [], false⟩
  | f + 1, l, mark, frm, i, out =>
    if l.length ≤ i then ⟨5, frm, i, bytesF out, [], false⟩
    else if isB l i mark then ⟨5, frm, i + 1, bytesF out, [], false⟩
    else if isB l i 10 then ⟨6, frm, i, [], [], false⟩
    else if !isB l i 92 then quotedGo f l mark frm (i + 1) (out ++ [chA l i])
    else if l.length ≤ i + 1 then quotedGo f l mark frm (i + 1) out
    else if isB l (i + 1) 10 then quotedGo f l mark frm (i + 2) out
    else quotedGo f l mark frm (valueF l i).2 (out ++ [(valueF l i).1])
def quotedF (l : List Int) (j : Nat) : Tk := quotedGo (l.length + 1) l (chA l j) j (j + 1) []
def hiddenB (c : Int) : Bool := decide (c ≤ 8 ∨ c = 11 ∨ (14 ≤ c ∧ c ≤ 31) ∨ c = 127)
def restGo : Nat → List Int → Nat → Nat → Tk
  | 0, l, frm, _ => ⟨8, frm, l.length, [], [], false⟩
  | f + 1, l, frm, i => if l.length ≤ i then ⟨8, frm, l.length, [], [], false⟩ else if isB l i 41 then ⟨8, frm, i + 1, [], [], false⟩ else if escB l i then restGo f l frm (valueF l i).2 else restGo f l frm (i + 1)
def restF (l : List Int) (frm i : Nat) : Tk := restGo (l.length + 1) l frm i
def urlBad (l : List Int) (i : Nat) : Bool := isB l i 34 || isB l i 39 || isB l i 40 || hiddenB (chA l i) || (isB l i 92 && !escB l i)
def urlGo : Nat → List Int → Nat → Nat → List Int → Tk
  | 0, l, frm, _, out => ⟨7, frm, l.length, bytesF out, [], false⟩
  | f + 1, l, frm, i, out =>
    if l.length ≤ spacesF l i then ⟨7, frm, l.length, bytesF out, [], false⟩
    else if isB l (spacesF l i) 41 then ⟨7, frm, spacesF l i + 1, bytesF out, [], false⟩
    else if i < spacesF l i then restF l frm (spacesF l i)
    else if urlBad l i then restF l frm i
    else if isB l i 92 then urlGo f l frm (valueF l i).2 (out ++ [(valueF l i).1])
    else urlGo f l frm (i + 1) (out ++ [chA l i])
def urlF (l : List Int) (frm i : Nat) : Tk := urlGo (l.length + 1) l frm i []
def urlName (bs : List Int) : Bool := decide (bs.map smallF = [117, 114, 108])
def calledF (l : List Int) (j : Nat) : Tk :=
  if !isB l (namesF l j).2 40 then ⟨1, j, (namesF l j).2, bytesF (namesF l j).1, [], false⟩
  else if urlName (bytesF (namesF l j).1) && !isB l (spacesF l ((namesF l j).2 + 1)) 34 && !isB l (spacesF l ((namesF l j).2 + 1)) 39 then urlF l j (spacesF l ((namesF l j).2 + 1))
  else ⟨2, j, (namesF l j).2 + 1, bytesF (namesF l j).1, [], false⟩
def skipGo : Nat → List Int → Nat → Nat
  | 0, l, i => min (i + 2) l.length
  | f + 1, l, i => if l.length ≤ i then min (i + 2) l.length else if isB l i 42 && isB l (i + 1) 47 then min (i + 2) l.length else skipGo f l (i + 1)
def openB (l : List Int) (j : Nat) : Bool := isB l j 47 && isB l (j + 1) 42
def behindGo : Nat → List Int → Nat → Nat
  | 0, _, j => j
  | f + 1, l, j => if openB l j then behindGo f l (skipGo (l.length + 1) l (j + 2)) else j
def behindF (l : List Int) (j : Nat) : Nat := behindGo (l.length + 1) l j
def signKind (c : Int) : Int :=
  if c = 40 then 21 else if c = 41 then 22 else if c = 91 then 19 else if c = 93 then 20 else if c = 123 then 23 else if c = 125 then 24 else if c = 44 then 18 else if c = 58 then 16 else if c = 59 then 17 else 9
def cdcB (l : List Int) (i : Nat) : Bool := isB l i 45 && isB l (i + 1) 45 && isB l (i + 2) 62
def cdoB (l : List Int) (i : Nat) : Bool := isB l i 60 && isB l (i + 1) 33 && isB l (i + 2) 45 && isB l (i + 3) 45
def atSgB (l : List Int) (i : Nat) : Bool := isB l i 64 && nameAt l (i + 1)
def hashB (l : List Int) (i : Nat) : Bool := isB l i 35 && (nmB l (i + 1) || escB l (i + 1))
def tokAt (l : List Int) (i : Nat) : Tk :=
  if l.length ≤ i then ⟨0, l.length, l.length, [], [], false⟩
  else if spB l i then ⟨13, i, spacesF l i, [], [], false⟩
  else if isB l i 34 || isB l i 39 then quotedF l i
  else if numAt l i then numericF l i
  else if cdcB l i then ⟨15, i, i + 3, [], [], false⟩
  else if nameAt l i then calledF l i
  else if cdoB l i then ⟨14, i, i + 4, [], [], false⟩
  else if atSgB l i then ⟨3, i, (namesF l (i + 1)).2, bytesF (namesF l (i + 1)).1, [], false⟩
  else if hashB l i then ⟨4, i, (namesF l (i + 1)).2, bytesF (namesF l (i + 1)).1, [], nameAt l (i + 1)⟩
  else if signKind (chA l i) = 9 then ⟨9, i, i + 1, bytesF [chA l i], [], false⟩
  else ⟨signKind (chA l i), i, i + 1, [], [], false⟩
def nextF (l : List Int) (j : Nat) : Tk := tokAt l (behindF l j)
def allGo : Nat → List Int → Nat → List Tk → List Tk
  | 0, _, _, out => out
  | f + 1, l, j, out => if (nextF l j).kind = 0 then out ++ [nextF l j] else allGo f l (nextF l j).to (out ++ [nextF l j])
def allF (l : List Int) : List Tk := allGo (l.length + 1) l 0 []
def toksF (zs : List Int) : List Tk := allF (prepF (charsF zs))
example : toksF [97, 92, 50, 54, 32, 98] = [⟨1, 0, 6, [97, 38, 98], [], false⟩, ⟨0, 6, 6, [], [], false⟩] := by decide +kernel
example : toksF [49, 46, 53, 101, 51, 112, 120] = [⟨12, 0, 7, [112, 120], [49, 46, 53, 101, 51], false⟩, ⟨0, 7, 7, [], [], false⟩] := by decide +kernel
example : toksF [50, 110, 32, 43, 32, 49] = [⟨12, 0, 2, [110], [50], true⟩, ⟨13, 2, 3, [], [], false⟩, ⟨9, 3, 4, [43], [], false⟩, ⟨13, 4, 5, [], [], false⟩, ⟨10, 5, 6, [], [49], true⟩, ⟨0, 6, 6, [], [], false⟩] := by decide +kernel
end

section
open Go.RowKit
structure Src (w : World) (a : Option Addr) (n cap : Nat) (l : List Int) : Prop where
  rd : Reads w .i64 a cap l
  len : l.length = n
  pre : Pre l
  small : n ≤ 100000
theorem Src.later {w w' : World} {a : Option Addr} {n cap : Nat} {l : List Int} (h : Src w a n cap l) (hb : Below w.heap.size w w') : Src w' a n cap l := ⟨h.rd.later hb, h.len, h.pre, h.small⟩
theorem Src.cell {w : World} {a : Option Addr} {n cap : Nat} {l : List Int} (h : Src w a n cap l) (k : Nat) (hk : k < n) :
    ∃ b off, a = some ⟨b, off, none⟩ ∧ w.cell? ⟨b, off + k, none⟩ = some (.int .i64 (chA l k)) := by
  obtain ⟨_, _, h3⟩ := h.rd
  rcases h3 with h3 | ⟨b, off, e, hat⟩
  · rw [← h.len, h3] at hk; simp at hk
  · exact ⟨b, off, e, hat.2 k (by rw [h.len]; exact hk)⟩
theorem Src.cap {w : World} {a : Option Addr} {n cap : Nat} {l : List Int} (h : Src w a n cap l) : n ≤ cap ∧ cap ≤ 9223372036854775807 := by
  have h1 := h.rd.1; have h2 := h.rd.2.1; unfold maxLen at h2; have h2 : cap ≤ 9223372036854775807 := h2; rw [h.len] at h1; exact ⟨h1, h2⟩
theorem hexGo_stop {l : List Int} {j : Nat} {m : Int} (f : Nat) (h : f = 0 ∨ hxB l j = false) : hexGo f l j m = (m, j) := by
  rcases f with _ | f
  · rfl
  · rw [hexGo, if_neg (by rcases h with h | h <;> simp_all)]
theorem digitsGo_stop {l : List Int} {j : Nat} (f : Nat) (h : dgB l j = false) : digitsGo f l j = j := by
  rcases f with _ | f
  · rfl
  · rw [digitsGo, if_neg (by rw [h]; decide)]
theorem spacesGo_stop {l : List Int} {j : Nat} (f : Nat) (h : spB l j = false) : spacesGo f l j = j := by
  rcases f with _ | f
  · rfl
  · rw [spacesGo, if_neg (by rw [h]; decide)]
theorem behindGo_stop {l : List Int} {j : Nat} (f : Nat) (h : openB l j = false) : behindGo f l j = j := by
  rcases f with _ | f
  · rfl
  · rw [behindGo, if_neg (by rw [h]; decide)]
theorem hexGo_le (l : List Int) : ∀ (f i : Nat) (m : Int), i ≤ (hexGo f l i m).2 ∧ (i ≤ l.length → (hexGo f l i m).2 ≤ l.length)
  | 0, i, m => ⟨Nat.le_refl _, fun h => h⟩
  | f + 1, i, m => by
    rw [hexGo]
    by_cases h : hxB l i = true
    · rw [if_pos h]
      obtain ⟨h1, h2⟩ := hexGo_le l f (i + 1) (16 * m + hexV (chA l i))
      exact ⟨by omega, fun _ => h2 (lt_of_hxB h)⟩
    · rw [if_neg h]; exact ⟨Nat.le_refl _, fun h => h⟩
theorem valueF_bd {l : List Int} {j : Nat} (h : j < l.length) : j < (valueF l j).2 ∧ (valueF l j).2 ≤ l.length := by
  unfold valueF
  by_cases h1 : l.length ≤ j + 1
  · rw [if_pos h1]; exact ⟨Nat.lt_succ_self _, by omega⟩
  · rw [if_neg h1]
    obtain ⟨g1, g2⟩ := hexGo_le l 6 (j + 1) 0
    have g2 := g2 (by omega)
    by_cases h2 : (hexGo 6 l (j + 1) 0).2 = j + 1
    · rw [if_pos h2]; exact ⟨by show j < j + 2; omega, by show j + 2 ≤ l.length; omega⟩
    · rw [if_neg h2]
      by_cases h3 : spB l (hexGo 6 l (j + 1) 0).2 = true
      · rw [if_pos h3]
        have := lt_of_spB h3
        exact ⟨by show j < _ + 1; omega, by show _ + 1 ≤ l.length; omega⟩
      · rw [if_neg h3]; exact ⟨by show j < _; omega, g2⟩
def tkCells (t : Tk) : List Value := [.int .i64 t.kind, .int .i64 t.frm, .int .i64 t.to, .string (strOfNums t.text), .string (strOfNums t.num), .bool t.whole]
def tkV (t : Tk) : Value := .agg (tkCells t).toArray
theorem digitsGo_le (l : List Int) : ∀ (f j : Nat), j ≤ digitsGo f l j ∧ (j ≤ l.length → digitsGo f l j ≤ l.length)
  | 0, j => ⟨Nat.le_refl _, fun h => h⟩
  | f + 1, j => by
    rw [digitsGo]
    by_cases h : dgB l j = true
    · rw [if_pos h]
      obtain ⟨h1, h2⟩ := digitsGo_le l f (j + 1)
      exact ⟨by omega, fun _ => h2 (lt_of_dgB h)⟩
    · rw [if_neg h]; exact ⟨Nat.le_refl _, fun h => h⟩
theorem signAt_le (l : List Int) (j : Nat) : j ≤ signAt l j ∧ (j ≤ l.length → signAt l j ≤ l.length) := by
  unfold signAt
  by_cases h : (isB l j 43 || isB l j 45) = true
  · rw [if_pos h]
    have : j < l.length := by
      rcases h' : isB l j 43 with _ | _
      · rw [h'] at h; exact lt_of_isB (c := 45) (by simpa using h) (by decide)
      · exact lt_of_isB h' (by decide)
    exact ⟨by omega, fun _ => this⟩
  · rw [if_neg h]; exact ⟨Nat.le_refl _, fun h => h⟩
theorem digitsF_le (l : List Int) (j : Nat) : j ≤ digitsF l j ∧ (j ≤ l.length → digitsF l j ≤ l.length) := digitsGo_le l _ j
theorem fracF_le (l : List Int) (j : Nat) : j ≤ fracF l j ∧ (j ≤ l.length → fracF l j ≤ l.length) := by
  unfold fracF
  by_cases h : fracAt l j = true
  · rw [if_pos h]
    have h1 : j < l.length := lt_of_isB (c := 46) (by unfold fracAt at h; rw [Bool.and_eq_true] at h; exact h.1) (by decide)
    obtain ⟨a, b⟩ := digitsF_le l (j + 1)
    exact ⟨by omega, fun _ => b h1⟩
  · rw [if_neg h]; exact ⟨Nat.le_refl _, fun h => h⟩
theorem expoF_le (l : List Int) (j : Nat) : j ≤ expoF l j ∧ (j ≤ l.length → expoF l j ≤ l.length) := by
  unfold expoF
  by_cases h : expoB l j = true
  · rw [if_pos h]
    have h0 : dgB l (signAt l (j + 1)) = true := by unfold expoB at h; rw [Bool.and_eq_true] at h; exact h.2
    have h1 := lt_of_dgB h0
    obtain ⟨a, b⟩ := digitsF_le l (signAt l (j + 1))
    obtain ⟨c, _⟩ := signAt_le l (j + 1)
    exact ⟨by omega, fun _ => b (by omega)⟩
  · rw [if_neg h]; exact ⟨Nat.le_refl _, fun h => h⟩
theorem numberF_le (l : List Int) (j : Nat) : j ≤ (numberF l j).1 ∧ (j ≤ l.length → (numberF l j).1 ≤ l.length) := by
  obtain ⟨a1, b1⟩ := signAt_le l j
  obtain ⟨a2, b2⟩ := digitsF_le l (signAt l j)
  obtain ⟨a3, b3⟩ := fracF_le l (digitsF l (signAt l j))
  obtain ⟨a4, b4⟩ := expoF_le l (fracF l (digitsF l (signAt l j)))
  exact ⟨by show j ≤ expoF _ _; omega, fun h => b4 (b3 (b2 (b1 h)))⟩
theorem Src.part {w : World} {b off n cap : Nat} {l : List Int} (h : Src w (some ⟨b, off, none⟩) n cap l) (i j : Nat) (hij : i ≤ j) (hj : j ≤ n) :
    Reads w .i64 (some ⟨b, off + i, none⟩) (cap - i) (sliceF l i j) ∧ (sliceF l i j).length = j - i := by
  obtain ⟨h1, h2, h3⟩ := h.rd
  have hl : (sliceF l i j).length = j - i := by unfold sliceF; rw [List.length_take, List.length_drop, h.len]; omega
  refine ⟨⟨by rw [hl]; rw [h.len] at h1; omega, by omega, ?_⟩, hl⟩
  rcases h3 with h3 | ⟨b', off', e, hat⟩
  · left
    have := h.len
    rw [h3] at this
    simp at this
    exact List.length_eq_zero_iff.1 (by rw [hl]; omega)
  · cases e
    right
    exact ⟨_, _, rfl, (hat.drop i).take (j - i)⟩
theorem namesGo_le (l : List Int) : ∀ (f j : Nat) (out : List Int), j ≤ (namesGo f l j out).2 ∧ (j ≤ l.length → (namesGo f l j out).2 ≤ l.length)
  | 0, j, out => ⟨Nat.le_refl _, fun h => h⟩
  | f + 1, j, out => by
    rw [namesGo]
    by_cases h : nmB l j = true
    · rw [if_pos h]
      obtain ⟨h1, h2⟩ := namesGo_le l f (j + 1) (out ++ [chA l j])
      exact ⟨by omega, fun _ => h2 (lt_of_nmB h)⟩
    · rw [if_neg h]
      by_cases he : escB l j = true
      · rw [if_pos he]
        obtain ⟨v1, v2⟩ := valueF_bd (lt_of_escB he)
        obtain ⟨h1, h2⟩ := namesGo_le l f (valueF l j).2 (out ++ [(valueF l j).1])
        exact ⟨by omega, fun _ => h2 v2⟩
      · rw [if_neg he]; exact ⟨Nat.le_refl _, fun h => h⟩
theorem namesF_le (l : List Int) (j : Nat) : j ≤ (namesF l j).2 ∧ (j ≤ l.length → (namesF l j).2 ≤ l.length) := namesGo_le l _ j []
theorem digitsF_pos {l : List Int} {j : Nat} (h : dgB l j = true) : j < digitsF l j := by
  unfold digitsF
  rw [digitsGo, if_pos h]
  have := (digitsGo_le l l.length (j + 1)).1
  omega
theorem spacesGo_le (l : List Int) : ∀ (f j : Nat), j ≤ spacesGo f l j ∧ (j ≤ l.length → spacesGo f l j ≤ l.length)
  | 0, j => ⟨Nat.le_refl _, fun h => h⟩
  | f + 1, j => by
    rw [spacesGo]
    by_cases h : spB l j = true
    · rw [if_pos h]
      obtain ⟨h1, h2⟩ := spacesGo_le l f (j + 1)
      exact ⟨by omega, fun _ => h2 (lt_of_spB h)⟩
    · rw [if_neg h]; exact ⟨Nat.le_refl _, fun h => h⟩
theorem spacesF_pos {l : List Int} {j : Nat} (h : spB l j = true) : j < spacesF l j := by
  unfold spacesF
  rw [spacesGo, if_pos h]
  have := (spacesGo_le l l.length (j + 1)).1
  omega
theorem spacesF_le (l : List Int) (j : Nat) : j ≤ l.length → spacesF l j ≤ l.length := (spacesGo_le l _ j).2
theorem numberF_pos {l : List Int} {j : Nat} (h : numAt l j = true) : j < (numberF l j).1 := by
  have a1 := (signAt_le l j).1
  have a4 := (expoF_le l (fracF l (digitsF l (signAt l j)))).1
  show j < expoF l (fracF l (digitsF l (signAt l j)))
  have a3 := (fracF_le l (digitsF l (signAt l j))).1
  have a2 := (digitsF_le l (signAt l j)).1
  rcases hd : dgB l (signAt l j) with _ | _
  · have hf : fracAt l (signAt l j) = true := by unfold numAt at h; rw [hd] at h; simpa using h
    have e : digitsF l (signAt l j) = signAt l j := by unfold digitsF; exact digitsGo_stop _ hd
    have hp : signAt l j < fracF l (signAt l j) := by
      unfold fracF
      rw [if_pos hf]
      have := (digitsF_le l (signAt l j + 1)).1
      omega
    rw [e] at a4 ⊢
    omega
  · have := digitsF_pos hd
    omega
theorem stB_nmB {l : List Int} {j : Nat} (h : stB l j = true) : nmB l j = true := by
  unfold stB at h; unfold nmB nameB; rw [h]; rfl
theorem namesF_pos {l : List Int} {j : Nat} (h : (nmB l j || escB l j) = true) : j < (namesF l j).2 := by
  unfold namesF
  rw [namesGo]
  by_cases hn : nmB l j = true
  · rw [if_pos hn]
    have := (namesGo_le l l.length (j + 1) ([] ++ [chA l j])).1
    omega
  · have he : escB l j = true := by simpa [hn] using h
    rw [if_neg hn, if_pos he]
    have h1 := (valueF_bd (lt_of_escB he)).1
    have := (namesGo_le l l.length (valueF l j).2 ([] ++ [(valueF l j).1])).1
    omega
theorem nameAt_first {l : List Int} {j : Nat} (h : nameAt l j = true) : (nmB l j || escB l j) = true := by
  unfold nameAt at h
  by_cases h45 : isB l j 45 = true
  · have : nmB l j = true := by unfold nmB nameB; rw [isB_iff.1 h45]; decide
    rw [this]; rfl
  · rw [if_neg h45] at h
    rcases hs : stB l j with _ | _
    · rw [hs] at h; rw [show escB l j = true from by simpa using h]; simp
    · rw [stB_nmB hs]; rfl
end

section
open Go.RowKit
def firstB (s : ByteArray) (c : UInt8) : Bool := decide ((strB s)[0]? = some c)
def signedB (s : ByteArray) : Bool := firstB s 43 || firstB s 45
def tailS (s : ByteArray) : ByteArray := s.extract 1 s.size
def bytesAll (s : ByteArray) : Bool := (strB s).all fun b => digitB b.toNat
def numB (s : ByteArray) : Bool := if signedB s then bytesAll (tailS s) && decide (0 < (tailS s).size) else bytesAll s && decide (0 < s.size)
end

section
def kdA (ts : List Tk) (j : Nat) : Int := (ts[j]?.map (·.kind)).getD 0
theorem kdA_ge {ts : List Tk} {j : Nat} (h : ts.length ≤ j) : kdA ts j = 0 := by unfold kdA; rw [List.getElem?_eq_none h]; rfl
theorem kdA_at {ts : List Tk} {j : Nat} (h : j < ts.length) : kdA ts j = (ts[j]'h).kind := by unfold kdA; rw [List.getElem?_eq_getElem h]; rfl
def endGo (ts : List Tk) (e : Nat) : Nat → Nat → Nat
  | 0, j => j
  | f + 1, j => if j < e ∧ kdA ts j ≠ 0 then endGo ts e f (j + 1) else j
def endF (ts : List Tk) (e j : Nat) : Nat := endGo ts e (e - j) j
theorem endGo_step (ts : List Tk) (e : Nat) (f j : Nat) (h : e - j ≤ f) : endGo ts e f j = if j < e ∧ kdA ts j ≠ 0 then endGo ts e (f - 1) (j + 1) else j := by
  cases f with
  | zero => rw [if_neg (by omega)]; rfl
  | succ f => rfl
theorem endF_step (ts : List Tk) (e j : Nat) : endF ts e j = if j < e ∧ kdA ts j ≠ 0 then endF ts e (j + 1) else j := by
  unfold endF
  rw [endGo_step ts e (e - j) j (Nat.le_refl _)]
  split
  · rw [show e - j - 1 = e - (j + 1) by omega]
  · rfl
theorem endF_spec (ts : List Tk) (e : Nat) : ∀ (n j : Nat), e - j ≤ n → j ≤ endF ts e j ∧ endF ts e j ≤ max j e ∧ (∀ i, j ≤ i → i < endF ts e j → i < e ∧ kdA ts i ≠ 0) ∧ (endF ts e j < e → kdA ts (endF ts e j) = 0) := by
  intro n
  induction n with
  | zero =>
    intro j h
    rw [endF_step, if_neg (by omega)]
    exact ⟨Nat.le_refl _, by omega, fun i h1 h2 => by omega, fun h1 => by omega⟩
  | succ n ih =>
    intro j h
    rw [endF_step]
    split
    · rename_i hh
      obtain ⟨h1, h2, h3, h4⟩ := ih (j + 1) (by omega)
      refine ⟨by omega, by omega, fun i hi1 hi2 => ?_, h4⟩
      rcases Nat.lt_or_ge j i with h5 | h5
      · exact h3 i h5 hi2
      · have : i = j := by omega
        subst this; exact hh
    · rename_i hh
      refine ⟨Nat.le_refl _, by omega, fun i h1 h2 => by omega, fun h1 => ?_⟩
      exact Classical.byContradiction fun h2 => hh ⟨h1, h2⟩
theorem endF_ge (ts : List Tk) (e j : Nat) : j ≤ endF ts e j := (endF_spec ts e _ j (Nat.le_refl _)).1
theorem endF_le (ts : List Tk) (e j : Nat) : endF ts e j ≤ max j e := (endF_spec ts e _ j (Nat.le_refl _)).2.1
theorem endF_in (ts : List Tk) (e j i : Nat) (h : j ≤ i) (hi : i < endF ts e j) : i < e ∧ kdA ts i ≠ 0 := (endF_spec ts e _ j (Nat.le_refl _)).2.2.1 i h hi
theorem endF_at (ts : List Tk) (e j : Nat) (h : endF ts e j < e) : kdA ts (endF ts e j) = 0 := (endF_spec ts e _ j (Nat.le_refl _)).2.2.2 h
theorem more_iff (ts : List Tk) (e j i : Nat) (h : j ≤ i) (hi : i ≤ endF ts e j) : (i < e ∧ kdA ts i ≠ 0) ↔ i < endF ts e j := by
  constructor
  · intro hh
    rcases Nat.lt_or_ge i (endF ts e j) with h1 | h1
    · exact h1
    · have h2 : i = endF ts e j := by omega
      subst h2
      exact absurd (endF_at ts e j hh.1) hh.2
  · intro hh; exact endF_in ts e j i h hh
theorem endF_sub (ts : List Tk) (e j i n : Nat) (h : j ≤ i) (hi : i ≤ n) (hn : n ≤ endF ts e j) : endF ts n i = n := by
  obtain ⟨h1, h2, h3, h4⟩ := endF_spec ts n _ i (Nat.le_refl _)
  rcases Nat.lt_or_ge (endF ts n i) n with h5 | h5
  · exact absurd (h4 h5) (endF_in ts e j _ (by omega) (by omega)).2
  · omega
def closeOf (k : Int) : Int := if k = 21 ∨ k = 2 then 22 else if k = 19 then 20 else if k = 23 then 24 else 0
def scanG (g : Nat → Nat) (ts : List Tk) (p : Int → Bool) (E : Nat) : Nat → Nat → Nat
  | 0, j => j
  | f + 1, j => if j < E ∧ p (kdA ts j) = false then scanG g ts p E f (g j) else j
def cvG (ts : List Tk) (E : Nat) : Nat → Nat → Nat
  | 0, j => j + 1
  | d + 1, j => if closeOf (kdA ts j) = 0 then j + 1 else min E (scanG (cvG ts E d) ts (fun k => decide (k = closeOf (kdA ts j))) E (E - (j + 1)) (j + 1) + 1)
def cvF (ts : List Tk) (E j : Nat) : Nat := cvG ts E (E - j) j
def scanF (ts : List Tk) (p : Int → Bool) (E j : Nat) : Nat := scanG (cvF ts E) ts p E (E - j) j
theorem scanG_congr (ts : List Tk) (p : Int → Bool) (E : Nat) (g g' : Nat → Nat) : ∀ (f j : Nat), (∀ i, j ≤ i → i < E → g i = g' i ∧ i < g i) → scanG g ts p E f j = scanG g' ts p E f j := by
  intro f
  induction f with
  | zero => intro j _; rfl
  | succ f ih =>
    intro j h
    show (if _ then _ else _) = (if _ then _ else _)
    split
    · rename_i hh
      obtain ⟨h1, h2⟩ := h j (Nat.le_refl _) hh.1
      rw [← h1]
      exact ih (g j) fun i hi hE => h i (by omega) hE
    · rfl
theorem scanG_end (ts : List Tk) (p : Int → Bool) (E : Nat) (g : Nat → Nat) (f j : Nat) (h : E ≤ j) : scanG g ts p E f j = j := by
  cases f with
  | zero => rfl
  | succ f => show (if _ then _ else _) = j; rw [if_neg (by omega)]
theorem scanG_step (ts : List Tk) (p : Int → Bool) (E : Nat) (g : Nat → Nat) (f j : Nat) : scanG g ts p E (f + 1) j = if j < E ∧ p (kdA ts j) = false then scanG g ts p E f (g j) else j := rfl
theorem scanG_fuel (ts : List Tk) (p : Int → Bool) (E : Nat) (g : Nat → Nat) : ∀ (n j f f' : Nat), E - j ≤ n → E - j ≤ f → E - j ≤ f' → (∀ i, j ≤ i → i < E → i < g i) → scanG g ts p E f j = scanG g ts p E f' j := by
  intro n
  induction n with
  | zero => intro j f f' h _ _ _; rw [scanG_end _ _ _ _ _ _ (by omega), scanG_end _ _ _ _ _ _ (by omega)]
  | succ n ih =>
    intro j f f' h h1 h2 hg
    rcases Nat.lt_or_ge j E with hj | hj
    · obtain ⟨f, rfl⟩ : ∃ m, f = m + 1 := ⟨f - 1, by omega⟩
      obtain ⟨f', rfl⟩ : ∃ m, f' = m + 1 := ⟨f' - 1, by omega⟩
      have h3 := hg j (Nat.le_refl _) hj
      rw [scanG_step, scanG_step]
      split
      · exact ih (g j) f f' (by omega) (by omega) (by omega) fun i hi hE => hg i (by omega) hE
      · rfl
    · rw [scanG_end _ _ _ _ _ _ hj, scanG_end _ _ _ _ _ _ hj]
theorem scanG_bounds (ts : List Tk) (p : Int → Bool) (E : Nat) (g : Nat → Nat) : ∀ (f j : Nat), j ≤ E → (∀ i, j ≤ i → i < E → i < g i ∧ g i ≤ E) → j ≤ scanG g ts p E f j ∧ scanG g ts p E f j ≤ E := by
  intro f
  induction f with
  | zero => intro j h _; exact ⟨Nat.le_refl _, h⟩
  | succ f ih =>
    intro j h hg
    rw [scanG_step]
    split
    · rename_i hh
      obtain ⟨h1, h2⟩ := hg j (Nat.le_refl _) hh.1
      obtain ⟨h3, h4⟩ := ih (g j) h2 fun i hi hE => hg i (by omega) hE
      exact ⟨by omega, h4⟩
    · exact ⟨Nat.le_refl _, h⟩
theorem cvG_step (ts : List Tk) (E d j : Nat) : cvG ts E (d + 1) j = if closeOf (kdA ts j) = 0 then j + 1 else min E (scanG (cvG ts E d) ts (fun k => decide (k = closeOf (kdA ts j))) E (E - (j + 1)) (j + 1) + 1) := rfl
theorem cvG_bounds (ts : List Tk) (E : Nat) : ∀ (d j : Nat), j < E → j < cvG ts E d j ∧ cvG ts E d j ≤ E := by
  intro d
  induction d with
  | zero => intro j h; exact ⟨Nat.lt_succ_self _, h⟩
  | succ d ih =>
    intro j h
    rw [cvG_step]
    split
    · exact ⟨Nat.lt_succ_self _, h⟩
    · obtain ⟨h1, h2⟩ := scanG_bounds ts (fun k => decide (k = closeOf (kdA ts j))) E (cvG ts E d) (E - (j + 1)) (j + 1) h fun i _ hE => ih i hE
      omega
theorem cvG_fuel (ts : List Tk) (E : Nat) : ∀ (n j d d' : Nat), E - j ≤ n → E - j ≤ d → E - j ≤ d' → j < E → cvG ts E d j = cvG ts E d' j := by
  intro n
  induction n with
  | zero => intro j d d' h _ _ hj; omega
  | succ n ih =>
    intro j d d' h h1 h2 hj
    obtain ⟨d, rfl⟩ : ∃ m, d = m + 1 := ⟨d - 1, by omega⟩
    obtain ⟨d', rfl⟩ : ∃ m, d' = m + 1 := ⟨d' - 1, by omega⟩
    rw [cvG_step, cvG_step]
    split
    · rfl
    · rw [scanG_congr ts _ E (cvG ts E d) (cvG ts E d') _ _ fun i hi hE => ⟨ih i d d' (by omega) (by omega) (by omega) hE, (cvG_bounds ts E d i hE).1⟩]
theorem cvF_bounds (ts : List Tk) (E j : Nat) (h : j < E) : j < cvF ts E j ∧ cvF ts E j ≤ E := cvG_bounds ts E _ j h
theorem scanF_bounds (ts : List Tk) (p : Int → Bool) (E j : Nat) (h : j ≤ E) : j ≤ scanF ts p E j ∧ scanF ts p E j ≤ E := scanG_bounds ts p E _ _ j h fun i _ hE => cvF_bounds ts E i hE
theorem scanF_end (ts : List Tk) (p : Int → Bool) (E j : Nat) (h : E ≤ j) : scanF ts p E j = j := scanG_end ts p E _ _ j h
theorem scanF_step (ts : List Tk) (p : Int → Bool) (E j : Nat) : scanF ts p E j = if j < E ∧ p (kdA ts j) = false then scanF ts p E (cvF ts E j) else j := by
  rcases Nat.lt_or_ge j E with hj | hj
  · have h1 := cvF_bounds ts E j hj
    have h2 : scanF ts p E j = scanG (cvF ts E) ts p E (E - j - 1 + 1) j := by unfold scanF; rw [show E - j - 1 + 1 = E - j by omega]
    rw [h2, scanG_step]
    split
    · exact scanG_fuel ts p E _ _ _ _ _ (Nat.le_refl _) (by omega) (Nat.le_refl _) fun i _ hE => (cvF_bounds ts E i hE).1
    · rfl
  · rw [scanF_end _ _ _ _ hj, if_neg (by omega)]
theorem scanF_stop (ts : List Tk) (p : Int → Bool) (E : Nat) : ∀ (n j : Nat), E - j ≤ n → scanF ts p E j < E → p (kdA ts (scanF ts p E j)) = true := by
  intro n
  induction n with
  | zero => intro j h hE; rw [scanF_end _ _ _ _ (by omega)] at hE; omega
  | succ n ih =>
    intro j h
    rw [scanF_step]
    split
    · rename_i hh
      have h1 := cvF_bounds ts E j hh.1
      exact ih _ (by omega)
    · rename_i hh
      intro hE
      cases hp : p (kdA ts j) with
      | true => rfl
      | false => exact absurd ⟨hE, hp⟩ hh
theorem scanF_congr (ts : List Tk) (p q : Int → Bool) (E : Nat) (h : ∀ k, p k = q k) (j : Nat) : scanF ts p E j = scanF ts q E j := by rw [show p = q from funext h]
theorem cvF_step (ts : List Tk) (E j : Nat) (h : j < E) : cvF ts E j = if closeOf (kdA ts j) = 0 then j + 1 else min E (scanF ts (fun k => decide (k = closeOf (kdA ts j))) E (j + 1) + 1) := by
  have h2 : cvF ts E j = cvG ts E (E - j - 1 + 1) j := by unfold cvF; rw [show E - j - 1 + 1 = E - j by omega]
  rw [h2, cvG_step]
  split
  · rfl
  · unfold scanF
    rw [scanG_congr ts _ E (cvG ts E (E - j - 1)) (cvF ts E) _ _ fun i hi hE => ⟨cvG_fuel ts E _ i _ _ (Nat.le_refl _) (by omega) (Nat.le_refl _) hE, (cvG_bounds ts E _ i hE).1⟩]
def openAt (k : Int) : List Int → List Int
  | [] => if closeOf k = 0 then [] else [closeOf k]
  | c :: r => if k = c then r else if closeOf k = 0 then c :: r else closeOf k :: c :: r
def stackG (ts : List Tk) (E : Nat) : Nat → Nat → List Int → Nat
  | 0, j, _ => j
  | f + 1, j, cs => if j < E then (if openAt (kdA ts j) cs = [] then j + 1 else stackG ts E f (j + 1) (openAt (kdA ts j) cs)) else j
def stackF (ts : List Tk) (E j : Nat) (cs : List Int) : Nat := stackG ts E (E - j) j cs
theorem stackF_step (ts : List Tk) (E j : Nat) (cs : List Int) : stackF ts E j cs = if j < E then (if openAt (kdA ts j) cs = [] then j + 1 else stackF ts E (j + 1) (openAt (kdA ts j) cs)) else j := by
  rcases Nat.lt_or_ge j E with hj | hj
  · have h2 : stackF ts E j cs = stackG ts E (E - (j + 1) + 1) j cs := by unfold stackF; rw [show E - (j + 1) + 1 = E - j by omega]
    rw [h2]; rfl
  · unfold stackF; rw [show E - j = 0 by omega, if_neg (by omega)]; rfl
theorem stackF_end (ts : List Tk) (E j : Nat) (cs : List Int) (h : E ≤ j) : stackF ts E j cs = j := by rw [stackF_step, if_neg (by omega)]
theorem stackF_scan (ts : List Tk) (E : Nat) : ∀ (n j : Nat) (c : Int) (r : List Int), E - j ≤ n → j ≤ E →
    stackF ts E j (c :: r) = if scanF ts (fun k => decide (k = c)) E j < E then (if r = [] then scanF ts (fun k => decide (k = c)) E j + 1 else stackF ts E (scanF ts (fun k => decide (k = c)) E j + 1) r) else E := by
  intro n
  induction n with
  | zero =>
    intro j c r h hj
    rw [stackF_end _ _ _ _ (by omega), scanF_end _ _ _ _ (by omega), if_neg (by omega)]; omega
  | succ n ih =>
    intro j c r h hj
    rcases Nat.lt_or_ge j E with hE | hE
    · rw [stackF_step, if_pos hE, scanF_step]
      by_cases hk : kdA ts j = c
      · have hs : (if j < E ∧ decide (kdA ts j = c) = false then scanF ts (fun k => decide (k = c)) E (cvF ts E j) else j) = j := if_neg (by simp [hk])
        rw [hs, if_pos hE, show openAt (kdA ts j) (c :: r) = r from if_pos hk]
      · have hs : (if j < E ∧ decide (kdA ts j = c) = false then scanF ts (fun k => decide (k = c)) E (cvF ts E j) else j) = scanF ts (fun k => decide (k = c)) E (cvF ts E j) := if_pos ⟨hE, by simp [hk]⟩
        rw [hs]
        by_cases h0 : closeOf (kdA ts j) = 0
        · have h1 : openAt (kdA ts j) (c :: r) = c :: r := by show (if _ then _ else _) = _; rw [if_neg hk, if_pos h0]
          rw [h1, if_neg (by simp), cvF_step ts E j hE, if_pos h0]
          exact ih (j + 1) c r (by omega) (by omega)
        · have h1 : openAt (kdA ts j) (c :: r) = closeOf (kdA ts j) :: c :: r := by show (if _ then _ else _) = _; rw [if_neg hk, if_neg h0]
          rw [h1, if_neg (by simp), ih (j + 1) _ (c :: r) (by omega) (by omega), cvF_step ts E j hE, if_neg h0]
          have h2 := scanF_bounds ts (fun k => decide (k = closeOf (kdA ts j))) E (j + 1) (by omega)
          split
          · rename_i h3
            rw [if_neg (by simp), ih _ c r (by omega) (by omega), Nat.min_eq_right (by omega)]
          · rename_i h3
            rw [Nat.min_eq_left (by omega), scanF_end _ _ _ _ (Nat.le_refl _), if_neg (by omega)]
    · rw [stackF_end _ _ _ _ hE, scanF_end _ _ _ _ hE, if_neg (by omega)]; omega
theorem stackF_next (ts : List Tk) (E j : Nat) (h : j < E) : stackF ts E j [] = cvF ts E j := by
  rw [stackF_step, if_pos h, cvF_step ts E j h]
  by_cases h0 : closeOf (kdA ts j) = 0
  · rw [show openAt (kdA ts j) [] = [] from if_pos h0, if_pos rfl, if_pos h0]
  · rw [show openAt (kdA ts j) [] = [closeOf (kdA ts j)] from if_neg h0, if_neg (by simp), if_neg h0, stackF_scan ts E _ _ _ _ (Nat.le_refl _) (by omega)]
    have h2 := scanF_bounds ts (fun k => decide (k = closeOf (kdA ts j))) E (j + 1) (by omega)
    split
    · rw [if_pos rfl, Nat.min_eq_right (by omega)]
    · rw [Nat.min_eq_left (by omega)]
end
end Go.Proofs.Ytelbjnanpmdnnaa
