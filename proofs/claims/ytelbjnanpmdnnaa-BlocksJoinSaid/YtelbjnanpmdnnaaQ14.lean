/- Texts of mine in one: Tk Tm R1 Cvb. -/
import Derived.Test.YtelbjnanpmdnnaaQ13
import Derived.Test.YtelbjnanpmdnnaaQ10
namespace Go.Proofs.Ytelbjnanpmdnnaa
section
open Go.RowKit
def chA (l : List Int) (j : Nat) : Int := l[j]?.getD 0
def Pre (l : List Int) : Prop := ∀ c ∈ l, 1 ≤ c ∧ c < 1114112
theorem chA_end (l : List Int) (j : Nat) (h : l.length ≤ j) : chA l j = 0 := by unfold chA; rw [List.getElem?_eq_none h]; rfl
theorem chA_lt {l : List Int} (hl : Pre l) {j : Nat} (h : j < l.length) : 1 ≤ chA l j ∧ chA l j < 1114112 := by
  unfold chA; rw [List.getElem?_eq_getElem h]; exact hl _ (List.getElem_mem h)
theorem chA_ch {l : List Int} (hl : Pre l) (j : Nat) : Ch (chA l j) := by
  rcases Nat.lt_or_ge j l.length with h | h
  · have := chA_lt hl h; unfold Ch; omega
  · rw [chA_end l j h]; unfold Ch; omega
theorem lt_of_chA {l : List Int} {j : Nat} (h : chA l j ≠ 0) : j < l.length := by
  rcases Nat.lt_or_ge j l.length with h' | h'
  · exact h'
  · exact absurd (chA_end l j h') h
def isB (l : List Int) (j : Nat) (c : Int) : Bool := decide (chA l j = c)
def spB (l : List Int) (j : Nat) : Bool := spaceB (chA l j)
def dgB (l : List Int) (j : Nat) : Bool := digitB (chA l j)
def stB (l : List Int) (j : Nat) : Bool := startB (chA l j)
def nmB (l : List Int) (j : Nat) : Bool := nameB (chA l j)
def escB (l : List Int) (j : Nat) : Bool := isB l j 92 && !isB l (j + 1) 10
def hxB (l : List Int) (j : Nat) : Bool := decide (0 ≤ hexV (chA l j))
theorem isB_iff {l : List Int} {j : Nat} {c : Int} : isB l j c = true ↔ chA l j = c := by unfold isB; exact decide_eq_true_iff
theorem lt_of_isB {l : List Int} {j : Nat} {c : Int} (h : isB l j c = true) (hc : c ≠ 0) : j < l.length := lt_of_chA (by rw [isB_iff.1 h]; exact hc)
theorem lt_of_spB {l : List Int} {j : Nat} (h : spB l j = true) : j < l.length := lt_of_chA fun h0 => by unfold spB at h; rw [h0] at h; exact absurd h (by decide)
theorem lt_of_dgB {l : List Int} {j : Nat} (h : dgB l j = true) : j < l.length := lt_of_chA fun h0 => by unfold dgB at h; rw [h0] at h; exact absurd h (by decide)
theorem lt_of_stB {l : List Int} {j : Nat} (h : stB l j = true) : j < l.length := lt_of_chA fun h0 => by unfold stB at h; rw [h0] at h; exact absurd h (by decide)
theorem lt_of_nmB {l : List Int} {j : Nat} (h : nmB l j = true) : j < l.length := lt_of_chA fun h0 => by unfold nmB at h; rw [h0] at h; exact absurd h (by decide)
theorem lt_of_hxB {l : List Int} {j : Nat} (h : hxB l j = true) : j < l.length := lt_of_chA fun h0 => by unfold hxB at h; rw [h0] at h; exact absurd h (by decide)
theorem lt_of_escB {l : List Int} {j : Nat} (h : escB l j = true) : j < l.length := lt_of_isB (by unfold escB at h; rw [Bool.and_eq_true] at h; exact h.1) (by decide)
def hexGo : Nat → List Int → Nat → Int → Int × Nat
  | 0, _, i, n => (n, i)
  | f + 1, l, i, n => if hxB l i then hexGo f l (i + 1) (16 * n + hexV (chA l i)) else (n, i)
def cleanF (c : Int) : Int := if c = 0 then 65533 else charOf c
def valueF (l : List Int) (j : Nat) : Int × Nat :=
  if l.length ≤ j + 1 then (65533, j + 1)
  else if (hexGo 6 l (j + 1) 0).2 = j + 1 then (chA l (j + 1), j + 2)
  else (cleanF (hexGo 6 l (j + 1) 0).1, if spB l (hexGo 6 l (j + 1) 0).2 then (hexGo 6 l (j + 1) 0).2 + 1 else (hexGo 6 l (j + 1) 0).2)
def nameAt (l : List Int) (j : Nat) : Bool := if isB l j 45 then isB l (j + 1) 45 || stB l (j + 1) || escB l (j + 1) else stB l j || escB l j
def signAt (l : List Int) (j : Nat) : Nat := if isB l j 43 || isB l j 45 then j + 1 else j
def fracAt (l : List Int) (j : Nat) : Bool := isB l j 46 && dgB l (j + 1)
def numAt (l : List Int) (j : Nat) : Bool := dgB l (signAt l j) || fracAt l (signAt l j)
def namesGo : Nat → List Int → Nat → List Int → List Int × Nat
  | 0, _, j, out => (out, j)
  | f + 1, l, j, out => if nmB l j then namesGo f l (j + 1) (out ++ [chA l j]) else if escB l j then namesGo f l (valueF l j).2 (out ++ [(valueF l j).1]) else (out, j)
def namesF (l : List Int) (j : Nat) : List Int × Nat := namesGo (l.length + 1) l j []
def digitsGo : Nat → List Int → Nat → Nat
  | 0, _, j => j
  | f + 1, l, j => if dgB l j then digitsGo f l (j + 1) else j
def digitsF (l : List Int) (j : Nat) : Nat := digitsGo (l.length + 1) l j
def spacesGo : Nat → List Int → Nat → Nat
  | 0, _, j => j
  | f + 1, l, j => if spB l j then spacesGo f l (j + 1) else j
def spacesF (l : List Int) (j : Nat) : Nat := spacesGo (l.length + 1) l j
def expoB (l : List Int) (j : Nat) : Bool := (isB l j 101 || isB l j 69) && dgB l (signAt l (j + 1))
def expoF (l : List Int) (j : Nat) : Nat := if expoB l j then digitsF l (signAt l (j + 1)) else j
def fracF (l : List Int) (j : Nat) : Nat := if fracAt l j then digitsF l (j + 1) else j
def numberF (l : List Int) (j : Nat) : Nat × Bool :=
  (expoF l (fracF l (digitsF l (signAt l j))), !fracAt l (digitsF l (signAt l j)) && !expoB l (fracF l (digitsF l (signAt l j))))
structure Tk where
  kind : Int
  frm : Nat
  to : Nat
  text : List Int
  num : List Int
  whole : Bool
deriving DecidableEq
def bytesF (l : List Int) : List Int := textF (l.map cleanF)
def sliceF (l : List Int) (i j : Nat) : List Int := (l.drop i).take (j - i)
def numericF (l : List Int) (j : Nat) : Tk :=
  if nameAt l (numberF l j).1 then ⟨12, j, (namesF l (numberF l j).1).2, bytesF (namesF l (numberF l j).1).1, bytesF (sliceF l j (numberF l j).1), (numberF l j).2⟩
  else if isB l (numberF l j).1 37 then ⟨11, j, (numberF l j).1 + 1, [], bytesF (sliceF l j (numberF l j).1), (numberF l j).2⟩
  else ⟨10, j, (numberF l j).1, [], bytesF (sliceF l j (numberF l j).1), (numberF l j).2⟩
def quotedGo : Nat → List Int → Int → Nat → Nat → List Int → Tk
  | 0, _, _, frm, i, out => ⟨5, frm, i, bytesF out, [], false⟩
  | f + 1, l, mark, frm, i, out =>
    if l.length ≤ i then ⟨5, frm, i, bytesF out, [], false⟩
    else if isB l i mark then ⟨5, frm, i + 1, bytesF out, [], false⟩
    else if isB l i 10 then ⟨6, frm, i, [], [], false⟩
    else if !isB l i 92 then quotedGo f l mark frm (i + 1) (out ++ [chA l i])
    else if l.length ≤ i + 1 then quotedGo f l mark frm (i + 1) out
    else if isB l (i + 1) 10 then quotedGo f l mark frm (i + 2) out
    else quotedGo f l mark frm (valueF l i).2 (out ++ [(valueF l i).1])
def quotedF (l : List Int) (j : Nat) : Tk := quotedGo (l.length + 1) l (chA l j) j (j + 1) []
def hiddenB (c : Int) : Bool := decide (c ≤ 8 ∨ c = 11 ∨ (14 ≤ c ∧ c ≤ 31) ∨ c = 127)
def restGo : Nat → List Int → Nat → Nat → Tk
  | 0, l, frm, _ => ⟨8, frm, l.length, [], [], false⟩
  | f + 1, l, frm, i => if l.length ≤ i then ⟨8, frm, l.length, [], [], false⟩ else if isB l i 41 then ⟨8, frm, i + 1, [], [], false⟩ else if escB l i then restGo f l frm (valueF l i).2 else restGo f l frm (i + 1)
def restF (l : List Int) (frm i : Nat) : Tk := restGo (l.length + 1) l frm i
def urlBad (l : List Int) (i : Nat) : Bool := isB l i 34 || isB l i 39 || isB l i 40 || hiddenB (chA l i) || (isB l i 92 && !escB l i)
def urlGo : Nat → List Int → Nat → Nat → List Int → Tk
  | 0, l, frm, _, out => ⟨7, frm, l.length, bytesF out, [], false⟩
  | f + 1, l, frm, i, out =>
    if l.length ≤ spacesF l i then ⟨7, frm, l.length, bytesF out, [], false⟩
    else if isB l (spacesF l i) 41 then ⟨7, frm, spacesF l i + 1, bytesF out, [], false⟩
    else if i < spacesF l i then restF l frm (spacesF l i)
    else if urlBad l i then restF l frm i
    else if isB l i 92 then urlGo f l frm (valueF l i).2 (out ++ [(valueF l i).1])
    else urlGo f l frm (i + 1) (out ++ [chA l i])
def urlF (l : List Int) (frm i : Nat) : Tk := urlGo (l.length + 1) l frm i []
def urlName (bs : List Int) : Bool := decide (bs.map smallF = [117, 114, 108])
def calledF (l : List Int) (j : Nat) : Tk :=
  if !isB l (namesF l j).2 40 then ⟨1, j, (namesF l j).2, bytesF (namesF l j).1, [], false⟩
  else if urlName (bytesF (namesF l j).1) && !isB l (spacesF l ((namesF l j).2 + 1)) 34 && !isB l (spacesF l ((namesF l j).2 + 1)) 39 then urlF l j (spacesF l ((namesF l j).2 + 1))
  else ⟨2, j, (namesF l j).2 + 1, bytesF (namesF l j).1, [], false⟩
def skipGo : Nat → List Int → Nat → Nat
  | 0, l, i => min (i + 2) l.length
  | f + 1, l, i => if l.length ≤ i then min (i + 2) l.length else if isB l i 42 && isB l (i + 1) 47 then min (i + 2) l.length else skipGo f l (i + 1)
def openB (l : List Int) (j : Nat) : Bool := isB l j 47 && isB l (j + 1) 42
def behindGo : Nat → List Int → Nat → Nat
  | 0, _, j => j
  | f + 1, l, j => if openB l j then behindGo f l (skipGo (l.length + 1) l (j + 2)) else j
def behindF (l : List Int) (j : Nat) : Nat := behindGo (l.length + 1) l j
def signKind (c : Int) : Int :=
  if c = 40 then 21 else if c = 41 then 22 else if c = 91 then 19 else if c = 93 then 20 else if c = 123 then 23 else if c = 125 then 24 else if c = 44 then 18 else if c = 58 then 16 else if c = 59 then 17 else 9
def cdcB (l : List Int) (i : Nat) : Bool := isB l i 45 && isB l (i + 1) 45 && isB l (i + 2) 62
def cdoB (l : List Int) (i : Nat) : Bool := isB l i 60 && isB l (i + 1) 33 && isB l (i + 2) 45 && isB l (i + 3) 45
def atSgB (l : List Int) (i : Nat) : Bool := isB l i 64 && nameAt l (i + 1)
def hashB (l : List Int) (i : Nat) : Bool := isB l i 35 && (nmB l (i + 1) || escB l (i + 1))
def tokAt (l : List Int) (i : Nat) : Tk :=
  if l.length ≤ i then ⟨0, l.length, l.length, [], [], false⟩
  else if spB l i then ⟨13, i, spacesF l i, [], [], false⟩
  else if isB l i 34 || isB l i 39 then quotedF l i
  else if numAt l i then numericF l i
  else if cdcB l i then ⟨15, i, i + 3, [], [], false⟩
  else if nameAt l i then calledF l i
  else if cdoB l i then ⟨14, i, i + 4, [], [], false⟩
  else if atSgB l i then ⟨3, i, (namesF l (i + 1)).2, bytesF (namesF l (i + 1)).1, [], false⟩
  else if hashB l i then ⟨4, i, (namesF l (i + 1)).2, bytesF (namesF l (i + 1)).1, [], nameAt l (i + 1)⟩
  else if signKind (chA l i) = 9 then ⟨9, i, i + 1, bytesF [chA l i], [], false⟩
  else ⟨signKind (chA l i), i, i + 1, [], [], false⟩
def nextF (l : List Int) (j : Nat) : Tk := tokAt l (behindF l j)
def allGo : Nat → List Int → Nat → List Tk → List Tk
  | 0, _, _, out => out
  | f + 1, l, j, out => if (nextF l j).kind = 0 then out ++ [nextF l j] else allGo f l (nextF l j).to (out ++ [nextF l j])
def allF (l : List Int) : List Tk := allGo (l.length + 1) l 0 []
def toksF (zs : List Int) : List Tk := allF (prepF (charsF zs))
example : toksF [97, 92, 50, 54, 32, 98] = [⟨1, 0, 6, [97, 38, 98], [], false⟩, ⟨0, 6, 6, [], [], false⟩] := by decide +kernel
example : toksF [49, 46, 53, 101, 51, 112, 120] = [⟨12, 0, 7, [112, 120], [49, 46, 53, 101, 51], false⟩, ⟨0, 7, 7, [], [], false⟩] := by decide +kernel
example : toksF [50, 110, 32, 43, 32, 49] = [⟨12, 0, 2, [110], [50], true⟩, ⟨13, 2, 3, [], [], false⟩, ⟨9, 3, 4, [43], [], false⟩, ⟨13, 4, 5, [], [], false⟩, ⟨10, 5, 6, [], [49], true⟩, ⟨0, 6, 6, [], [], false⟩] := by decide +kernel
end

section
open Go.RowKit
structure Src (w : World) (a : Option Addr) (n cap : Nat) (l : List Int) : Prop where
  rd : Reads w .i64 a cap l
  len : l.length = n
  pre : Pre l
  small : n ≤ 100000
theorem Src.later {w w' : World} {a : Option Addr} {n cap : Nat} {l : List Int} (h : Src w a n cap l) (hb : Below w.heap.size w w') : Src w' a n cap l := ⟨h.rd.later hb, h.len, h.pre, h.small⟩
theorem Src.cell {w : World} {a : Option Addr} {n cap : Nat} {l : List Int} (h : Src w a n cap l) (k : Nat) (hk : k < n) :
    ∃ b off, a = some ⟨b, off, none⟩ ∧ w.cell? ⟨b, off + k, none⟩ = some (.int .i64 (chA l k)) := by
  obtain ⟨_, _, h3⟩ := h.rd
  rcases h3 with h3 | ⟨b, off, e, hat⟩
  · rw [← h.len, h3] at hk; simp at hk
  · exact ⟨b, off, e, hat.2 k (by rw [h.len]; exact hk)⟩
theorem Src.cap {w : World} {a : Option Addr} {n cap : Nat} {l : List Int} (h : Src w a n cap l) : n ≤ cap ∧ cap ≤ 9223372036854775807 := by
  have h1 := h.rd.1; have h2 := h.rd.2.1; unfold maxLen at h2; have h2 : cap ≤ 9223372036854775807 := h2; rw [h.len] at h1; exact ⟨h1, h2⟩
theorem hexGo_stop {l : List Int} {j : Nat} {m : Int} (f : Nat) (h : f = 0 ∨ hxB l j = false) : hexGo f l j m = (m, j) := by
  rcases f with _ | f
  · rfl
  · rw [hexGo, if_neg (by rcases h with h | h <;> simp_all)]
theorem digitsGo_stop {l : List Int} {j : Nat} (f : Nat) (h : dgB l j = false) : digitsGo f l j = j := by
  rcases f with _ | f
  · rfl
  · rw [digitsGo, if_neg (by rw [h]; decide)]
theorem spacesGo_stop {l : List Int} {j : Nat} (f : Nat) (h : spB l j = false) : spacesGo f l j = j := by
  rcases f with _ | f
  · rfl
  · rw [spacesGo, if_neg (by rw [h]; decide)]
theorem behindGo_stop {l : List Int} {j : Nat} (f : Nat) (h : openB l j = false) : behindGo f l j = j := by
  rcases f with _ | f
  · rfl
  · rw [behindGo, if_neg (by rw [h]; decide)]
theorem hexGo_le (l : List Int) : ∀ (f i : Nat) (m : Int), i ≤ (hexGo f l i m).2 ∧ (i ≤ l.length → (hexGo f l i m).2 ≤ l.length)
  | 0, i, m => ⟨Nat.le_refl _, fun h => h⟩
  | f + 1, i, m => by
    rw [hexGo]
    by_cases h : hxB l i = true
    · rw [if_pos h]
      obtain ⟨h1, h2⟩ := hexGo_le l f (i + 1) (16 * m + hexV (chA l i))
      exact ⟨by omega, fun _ => h2 (lt_of_hxB h)⟩
    · rw [if_neg h]; exact ⟨Nat.le_refl _, fun h => h⟩
theorem valueF_bd {l : List Int} {j : Nat} (h : j < l.length) : j < (valueF l j).2 ∧ (valueF l j).2 ≤ l.length := by
  unfold valueF
  by_cases h1 : l.length ≤ j + 1
  · rw [if_pos h1]; exact ⟨Nat.lt_succ_self _, by omega⟩
  · rw [if_neg h1]
    obtain ⟨g1, g2⟩ := hexGo_le l 6 (j + 1) 0
    have g2 := g2 (by omega)
    by_cases h2 : (hexGo 6 l (j + 1) 0).2 = j + 1
    · rw [if_pos h2]; exact ⟨by show j < j + 2; omega, by show j + 2 ≤ l.length; omega⟩
    · rw [if_neg h2]
      by_cases h3 : spB l (hexGo 6 l (j + 1) 0).2 = true
      · rw [if_pos h3]
        have := lt_of_spB h3
        exact ⟨by show j < _ + 1; omega, by show _ + 1 ≤ l.length; omega⟩
      · rw [if_neg h3]; exact ⟨by show j < _; omega, g2⟩
def tkCells (t : Tk) : List Value := [.int .i64 t.kind, .int .i64 t.frm, .int .i64 t.to, .string (strOfNums t.text), .string (strOfNums t.num), .bool t.whole]
def tkV (t : Tk) : Value := .agg (tkCells t).toArray
theorem digitsGo_le (l : List Int) : ∀ (f j : Nat), j ≤ digitsGo f l j ∧ (j ≤ l.length → digitsGo f l j ≤ l.length)
  | 0, j => ⟨Nat.le_refl _, fun h => h⟩
  | f + 1, j => by
    rw [digitsGo]
    by_cases h : dgB l j = true
    · rw [if_pos h]
      obtain ⟨h1, h2⟩ := digitsGo_le l f (j + 1)
      exact ⟨by omega, fun _ => h2 (lt_of_dgB h)⟩
    · rw [if_neg h]; exact ⟨Nat.le_refl _, fun h => h⟩
theorem signAt_le (l : List Int) (j : Nat) : j ≤ signAt l j ∧ (j ≤ l.length → signAt l j ≤ l.length) := by
  unfold signAt
  by_cases h : (isB l j 43 || isB l j 45) = true
  · rw [if_pos h]
    have : j < l.length := by
      rcases h' : isB l j 43 with _ | _
      · rw [h'] at h; exact lt_of_isB (c := 45) (by simpa using h) (by decide)
      · exact lt_of_isB h' (by decide)
    exact ⟨by omega, fun _ => this⟩
  · rw [if_neg h]; exact ⟨Nat.le_refl _, fun h => h⟩
theorem digitsF_le (l : List Int) (j : Nat) : j ≤ digitsF l j ∧ (j ≤ l.length → digitsF l j ≤ l.length) := digitsGo_le l _ j
theorem fracF_le (l : List Int) (j : Nat) : j ≤ fracF l j ∧ (j ≤ l.length → fracF l j ≤ l.length) := by
  unfold fracF
  by_cases h : fracAt l j = true
  · rw [if_pos h]
    have h1 : j < l.length := lt_of_isB (c := 46) (by unfold fracAt at h; rw [Bool.and_eq_true] at h; exact h.1) (by decide)
    obtain ⟨a, b⟩ := digitsF_le l (j + 1)
    exact ⟨by omega, fun _ => b h1⟩
  · rw [if_neg h]; exact ⟨Nat.le_refl _, fun h => h⟩
theorem expoF_le (l : List Int) (j : Nat) : j ≤ expoF l j ∧ (j ≤ l.length → expoF l j ≤ l.length) := by
  unfold expoF
  by_cases h : expoB l j = true
  · rw [if_pos h]
    have h0 : dgB l (signAt l (j + 1)) = true := by unfold expoB at h; rw [Bool.and_eq_true] at h; exact h.2
    have h1 := lt_of_dgB h0
    obtain ⟨a, b⟩ := digitsF_le l (signAt l (j + 1))
    obtain ⟨c, _⟩ := signAt_le l (j + 1)
    exact ⟨by omega, fun _ => b (by omega)⟩
  · rw [if_neg h]; exact ⟨Nat.le_refl _, fun h => h⟩
theorem numberF_le (l : List Int) (j : Nat) : j ≤ (numberF l j).1 ∧ (j ≤ l.length → (numberF l j).1 ≤ l.length) := by
  obtain ⟨a1, b1⟩ := signAt_le l j
  obtain ⟨a2, b2⟩ := digitsF_le l (signAt l j)
  obtain ⟨a3, b3⟩ := fracF_le l (digitsF l (signAt l j))
  obtain ⟨a4, b4⟩ := expoF_le l (fracF l (digitsF l (signAt l j)))
  exact ⟨by show j ≤ expoF _ _; omega, fun h => b4 (b3 (b2 (b1 h)))⟩
theorem Src.part {w : World} {b off n cap : Nat} {l : List Int} (h : Src w (some ⟨b, off, none⟩) n cap l) (i j : Nat) (hij : i ≤ j) (hj : j ≤ n) :
    Reads w .i64 (some ⟨b, off + i, none⟩) (cap - i) (sliceF l i j) ∧ (sliceF l i j).length = j - i := by
  obtain ⟨h1, h2, h3⟩ := h.rd
  have hl : (sliceF l i j).length = j - i := by unfold sliceF; rw [List.length_take, List.length_drop, h.len]; omega
  refine ⟨⟨by rw [hl]; rw [h.len] at h1; omega, by omega, ?_⟩, hl⟩
  rcases h3 with h3 | ⟨b', off', e, hat⟩
  · left
    have := h.len
    rw [h3] at this
    simp at this
    exact List.length_eq_zero_iff.1 (by rw [hl]; omega)
  · cases e
    right
    exact ⟨_, _, rfl, (hat.drop i).take (j - i)⟩
theorem namesGo_le (l : List Int) : ∀ (f j : Nat) (out : List Int), j ≤ (namesGo f l j out).2 ∧ (j ≤ l.length → (namesGo f l j out).2 ≤ l.length)
  | 0, j, out => ⟨Nat.le_refl _, fun h => h⟩
  | f + 1, j, out => by
    rw [namesGo]
    by_cases h : nmB l j = true
    · rw [if_pos h]
      obtain ⟨h1, h2⟩ := namesGo_le l f (j + 1) (out ++ [chA l j])
      exact ⟨by omega, fun _ => h2 (lt_of_nmB h)⟩
    · rw [if_neg h]
      by_cases he : escB l j = true
      · rw [if_pos he]
        obtain ⟨v1, v2⟩ := valueF_bd (lt_of_escB he)
        obtain ⟨h1, h2⟩ := namesGo_le l f (valueF l j).2 (out ++ [(valueF l j).1])
        exact ⟨by omega, fun _ => h2 v2⟩
      · rw [if_neg he]; exact ⟨Nat.le_refl _, fun h => h⟩
theorem namesF_le (l : List Int) (j : Nat) : j ≤ (namesF l j).2 ∧ (j ≤ l.length → (namesF l j).2 ≤ l.length) := namesGo_le l _ j []
theorem digitsF_pos {l : List Int} {j : Nat} (h : dgB l j = true) : j < digitsF l j := by
  unfold digitsF
  rw [digitsGo, if_pos h]
  have := (digitsGo_le l l.length (j + 1)).1
  omega
theorem spacesGo_le (l : List Int) : ∀ (f j : Nat), j ≤ spacesGo f l j ∧ (j ≤ l.length → spacesGo f l j ≤ l.length)
  | 0, j => ⟨Nat.le_refl _, fun h => h⟩
  | f + 1, j => by
    rw [spacesGo]
    by_cases h : spB l j = true
    · rw [if_pos h]
      obtain ⟨h1, h2⟩ := spacesGo_le l f (j + 1)
      exact ⟨by omega, fun _ => h2 (lt_of_spB h)⟩
    · rw [if_neg h]; exact ⟨Nat.le_refl _, fun h => h⟩
theorem spacesF_pos {l : List Int} {j : Nat} (h : spB l j = true) : j < spacesF l j := by
  unfold spacesF
  rw [spacesGo, if_pos h]
  have := (spacesGo_le l l.length (j + 1)).1
  omega
theorem spacesF_le (l : List Int) (j : Nat) : j ≤ l.length → spacesF l j ≤ l.length := (spacesGo_le l _ j).2
theorem numberF_pos {l : List Int} {j : Nat} (h : numAt l j = true) : j < (numberF l j).1 := by
  have a1 := (signAt_le l j).1
  have a4 := (expoF_le l (fracF l (digitsF l (signAt l j)))).1
  show j < expoF l (fracF l (digitsF l (signAt l j)))
  have a3 := (fracF_le l (digitsF l (signAt l j))).1
  have a2 := (digitsF_le l (signAt l j)).1
  rcases hd : dgB l (signAt l j) with _ | _
  · have hf : fracAt l (signAt l j) = true := by unfold numAt at h; rw [hd] at h; simpa using h
    have e : digitsF l (signAt l j) = signAt l j := by unfold digitsF; exact digitsGo_stop _ hd
    have hp : signAt l j < fracF l (signAt l j) := by
      unfold fracF
      rw [if_pos hf]
      have := (digitsF_le l (signAt l j + 1)).1
      omega
    rw [e] at a4 ⊢
    omega
  · have := digitsF_pos hd
    omega
theorem stB_nmB {l : List Int} {j : Nat} (h : stB l j = true) : nmB l j = true := by
  unfold stB at h; unfold nmB nameB; rw [h]; rfl
theorem namesF_pos {l : List Int} {j : Nat} (h : (nmB l j || escB l j) = true) : j < (namesF l j).2 := by
  unfold namesF
  rw [namesGo]
  by_cases hn : nmB l j = true
  · rw [if_pos hn]
    have := (namesGo_le l l.length (j + 1) ([] ++ [chA l j])).1
    omega
  · have he : escB l j = true := by simpa [hn] using h
    rw [if_neg hn, if_pos he]
    have h1 := (valueF_bd (lt_of_escB he)).1
    have := (namesGo_le l l.length (valueF l j).2 ([] ++ [(valueF l j).1])).1
    omega
theorem nameAt_first {l : List Int} {j : Nat} (h : nameAt l j = true) : (nmB l j || escB l j) = true := by
  unfold nameAt at h
  by_cases h45 : isB l j 45 = true
  · have : nmB l j = true := by unfold nmB nameB; rw [isB_iff.1 h45]; decide
    rw [this]; rfl
  · rw [if_neg h45] at h
    rcases hs : stB l j with _ | _
    · rw [hs] at h; rw [show escB l j = true from by simpa using h]; simp
    · rw [stB_nmB hs]; rfl
end

section
open Go.RowKit
set_option maxRecDepth 100000 in
set_option maxHeartbeats 1000000 in
theorem ris_any {a : Option Addr} {n cap : Nat} {l : List Int} {w : World} (i : Int) (k : Nat) (c : Int) (h : Src w a n cap l) (hi : i = (k : Int)) (hc : c ≠ 0) :
    Calls Try.prog 53 #[.slice a n cap, .int .i64 i, .int .i64 c] w (Tells (.bool (isB l k c)) w) := by
  subst hi
  obtain ⟨hcap1, hcap2⟩ := h.cap
  by_cases hk : k < n
  · obtain ⟨b, off, rfl, hcell⟩ := h.cell k hk
    have q : (chA l k == c) = isB l k c := by unfold isB; rfl
    have hlt : (k : Int) < (n : Int) := by omega
    clear h hk hc
    generalize chA l k = v at *
    generalize isB l k c = r at *
    go_enter Try.func53, Try.ntmps53
    go_wp2
    go_ret
    exact ⟨rfl, rfl⟩
  · have q : isB l k c = false := decide_eq_false (by rw [chA_end l k (by rw [h.len]; omega)]; exact fun e => hc e.symm)
    rw [q]
    have hlt : ¬ (k : Int) < (n : Int) := by omega
    clear h hk hc q
    go_enter Try.func53, Try.ntmps53
    go_wp2
    go_ret
    exact ⟨rfl, rfl⟩
set_option maxRecDepth 100000 in
set_option maxHeartbeats 1000000 in
theorem rspaceAt {a : Option Addr} {n cap : Nat} {l : List Int} {w : World} (i : Int) (k : Nat) (h : Src w a n cap l) (hi : i = (k : Int)) :
    Calls Try.prog 49 #[.slice a n cap, .int .i64 i] w (Tells (.bool (spB l k)) w) := by
  subst hi
  obtain ⟨hcap1, hcap2⟩ := h.cap
  by_cases hk : k < n
  · obtain ⟨b, off, rfl, hcell⟩ := h.cell k hk
    have hs := fun w => rspace_any (chA l k) w (chA_ch h.pre k)
    have q : spaceB (chA l k) = spB l k := rfl
    have hlt : (k : Int) < (n : Int) := by omega
    clear h hk
    rw [q] at hs
    clear q
    generalize chA l k = v at *
    generalize spB l k = r at *
    go_enter Try.func49, Try.ntmps49
    go_wp2_with (go_at_call 48; refine (hs _).mono ?_; rintro e w1 ⟨rfl, rfl⟩)
    go_ret
    exact ⟨rfl, rfl⟩
  · have q : spB l k = false := by
      rcases hq : spB l k with _ | _
      · rfl
      · exact absurd (lt_of_spB hq) (by rw [h.len]; exact hk)
    rw [q]
    have hlt : ¬ (k : Int) < (n : Int) := by omega
    clear h hk q
    go_enter Try.func49, Try.ntmps49
    go_wp2
    go_ret
    exact ⟨rfl, rfl⟩
set_option maxRecDepth 100000 in
set_option maxHeartbeats 1000000 in
theorem rdigitAt {a : Option Addr} {n cap : Nat} {l : List Int} {w : World} (i : Int) (k : Nat) (h : Src w a n cap l) (hi : i = (k : Int)) :
    Calls Try.prog 72 #[.slice a n cap, .int .i64 i] w (Tells (.bool (dgB l k)) w) := by
  subst hi
  obtain ⟨hcap1, hcap2⟩ := h.cap
  by_cases hk : k < n
  · obtain ⟨b, off, rfl, hcell⟩ := h.cell k hk
    have hs := fun w => rdigit_any (chA l k) w (chA_ch h.pre k)
    have q : digitB (chA l k) = dgB l k := rfl
    have hlt : (k : Int) < (n : Int) := by omega
    clear h hk
    rw [q] at hs
    clear q
    generalize chA l k = v at *
    generalize dgB l k = r at *
    go_enter Try.func72, Try.ntmps72
    go_wp2_with (go_at_call 84; refine (hs _).mono ?_; rintro e w1 ⟨rfl, rfl⟩)
    go_ret
    exact ⟨rfl, rfl⟩
  · have q : dgB l k = false := by
      rcases hq : dgB l k with _ | _
      · rfl
      · exact absurd (lt_of_dgB hq) (by rw [h.len]; exact hk)
    rw [q]
    have hlt : ¬ (k : Int) < (n : Int) := by omega
    clear h hk q
    go_enter Try.func72, Try.ntmps72
    go_wp2
    go_ret
    exact ⟨rfl, rfl⟩
set_option maxRecDepth 100000 in
set_option maxHeartbeats 1000000 in
theorem rstartAt {a : Option Addr} {n cap : Nat} {l : List Int} {w : World} (i : Int) (k : Nat) (h : Src w a n cap l) (hi : i = (k : Int)) :
    Calls Try.prog 74 #[.slice a n cap, .int .i64 i] w (Tells (.bool (stB l k)) w) := by
  subst hi
  obtain ⟨hcap1, hcap2⟩ := h.cap
  by_cases hk : k < n
  · obtain ⟨b, off, rfl, hcell⟩ := h.cell k hk
    have hs := fun w => rstart_any (chA l k) w (chA_ch h.pre k)
    have q : startB (chA l k) = stB l k := rfl
    have hlt : (k : Int) < (n : Int) := by omega
    clear h hk
    rw [q] at hs
    clear q
    generalize chA l k = v at *
    generalize stB l k = r at *
    go_enter Try.func74, Try.ntmps74
    go_wp2_with (go_at_call 85; refine (hs _).mono ?_; rintro e w1 ⟨rfl, rfl⟩)
    go_ret
    exact ⟨rfl, rfl⟩
  · have q : stB l k = false := by
      rcases hq : stB l k with _ | _
      · rfl
      · exact absurd (lt_of_stB hq) (by rw [h.len]; exact hk)
    rw [q]
    have hlt : ¬ (k : Int) < (n : Int) := by omega
    clear h hk q
    go_enter Try.func74, Try.ntmps74
    go_wp2
    go_ret
    exact ⟨rfl, rfl⟩
set_option maxRecDepth 100000 in
set_option maxHeartbeats 1000000 in
theorem rinnerAt {a : Option Addr} {n cap : Nat} {l : List Int} {w : World} (i : Int) (k : Nat) (h : Src w a n cap l) (hi : i = (k : Int)) :
    Calls Try.prog 57 #[.slice a n cap, .int .i64 i] w (Tells (.bool (nmB l k)) w) := by
  subst hi
  obtain ⟨hcap1, hcap2⟩ := h.cap
  by_cases hk : k < n
  · obtain ⟨b, off, rfl, hcell⟩ := h.cell k hk
    have hs := fun w => rname_any (chA l k) w (chA_ch h.pre k)
    have q : nameB (chA l k) = nmB l k := rfl
    have hlt : (k : Int) < (n : Int) := by omega
    clear h hk
    rw [q] at hs
    clear q
    generalize chA l k = v at *
    generalize nmB l k = r at *
    go_enter Try.func57, Try.ntmps57
    go_wp2_with (go_at_call 76; refine (hs _).mono ?_; rintro e w1 ⟨rfl, rfl⟩)
    go_ret
    exact ⟨rfl, rfl⟩
  · have q : nmB l k = false := by
      rcases hq : nmB l k with _ | _
      · rfl
      · exact absurd (lt_of_nmB hq) (by rw [h.len]; exact hk)
    rw [q]
    have hlt : ¬ (k : Int) < (n : Int) := by omega
    clear h hk q
    go_enter Try.func57, Try.ntmps57
    go_wp2
    go_ret
    exact ⟨rfl, rfl⟩
end

section
open Go.RowKit
theorem freeze_new (w : World) (C : Array Value) (e : TypeId) (m : Nat) : (w.alloc (.cells C e)).freeze ⟨w.heap.size, m, none⟩ 1 = w.alloc (.cells C e (m, m + 1)) := by
  have hm : ∀ (a : Array Obj) (x : Obj) (f : Obj → Obj), (a.push x).modify a.size f = a.push (f x) := by
    intro a x f
    apply Array.ext
    · simp
    · intro i h1 h2
      simp only [Array.getElem_modify, Array.getElem_push]
      by_cases h : a.size = i
      · subst h
        simp
      · have hi : i < a.size := by simp at h1; omega
        simp [h, hi]
  unfold World.freeze
  rw [if_neg (by decide)]
  show ({ w.alloc (.cells C e) with heap := (w.heap.push (.cells C e)).modify w.heap.size _ } : World) = _
  rw [hm]
  rfl
theorem conv_bytes (w : World) (C : Array Value) (n c : Nat) : (convert 22 22 (.slice (some ⟨w.heap.size, 0, none⟩) n c)).run Try.prog (w.alloc (.cells C 5)) = .ok (.slice (some ⟨w.heap.size, 0, none⟩) n c) (w.alloc (.cells C 5 (C.size, C.size + 1))) := by
  have hsh : (w.alloc (.cells C 5)).shape? w.heap.size = some (5, C.size) := by
    have : (w.alloc (.cells C 5)).heap[w.heap.size]? = some (.cells C 5) := by
      show (w.heap.push (.cells C 5))[w.heap.size]? = _
      simp
    unfold World.shape?
    rw [this]
  simp [convert, run_underlying Try.underlying22, run_underlying Try.underlying5, markStringish, hsh, freeze_new]
theorem reads_marked (w : World) (k : IntKind) (zs : List Int) (T : TypeId) (m : Nat × Nat) (n : Nat) (hn : zs.length = n) (hm : n ≤ maxLen) : Reads (w.alloc (.cells (zs.map (Value.int k)).toArray T m)) k (some ⟨w.heap.size, 0, none⟩) n zs := by
  subst hn
  refine ⟨Nat.le_refl _, hm, .inr ⟨_, _, rfl, by simp, fun j hj => ?_⟩⟩
  have hh := heap_alloc_new w (.cells (zs.map (Value.int k)).toArray T m)
  rw [Nat.zero_add]
  simp only [World.cell?, hh]
  simp [List.getElem?_eq_getElem hj]
end
end Go.Proofs.Ytelbjnanpmdnnaa
