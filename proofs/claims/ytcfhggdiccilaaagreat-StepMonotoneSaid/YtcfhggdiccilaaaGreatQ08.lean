/- Texts of mine in one: Tk Tm Cvb Tks Ey0 Ey1 R1 R2. -/
import Derived.Test.YtcfhggdiccilaaaGreatQ07
import Derived.Test.YtcfhggdiccilaaaGreatQ05
import Derived.Test.YtcfhggdiccilaaaGreatQ01
namespace Go.Proofs.YtcfhggdiccilaaaGreat
section
open Go.RowKit
def chA (l : List Int) (j : Nat) : Int := l[j]?.getD 0
def Pre (l : List Int) : Prop := ∀ c ∈ l, 1 ≤ c ∧ c < 1114112
theorem chA_end (l : List Int) (j : Nat) (h : l.length ≤ j) : chA l j = 0 := by unfold chA; rw [List.getElem?_eq_none h]; rfl
theorem chA_lt {l : List Int} (hl : Pre l) {j : Nat} (h : j < l.length) : 1 ≤ chA l j ∧ chA l j < 1114112 := by
  unfold chA; rw [List.getElem?_eq_getElem h]; exact hl _ (List.getElem_mem h)
theorem chA_ch {l : List Int} (hl : Pre l) (j : Nat) : Ch (chA l j) := by
  rcases Nat.lt_or_ge j l.length with h | h
  · have := chA_lt hl h; unfold Ch; omega
  · rw [chA_end l j h]; unfold Ch; omega
theorem lt_of_chA {l : List Int} {j : Nat} (h : chA l j ≠ 0) : j < l.length := by
  rcases Nat.lt_or_ge j l.length with h' | h'
  · exact h'
  · exact absurd (chA_end l j h') h
def isB (l : List Int) (j : Nat) (c : Int) : Bool := decide (chA l j = c)
def spB (l : List Int) (j : Nat) : Bool := spaceB (chA l j)
def dgB (l : List Int) (j : Nat) : Bool := digitB (chA l j)
def stB (l : List Int) (j : Nat) : Bool := startB (chA l j)
def nmB (l : List Int) (j : Nat) : Bool := nameB (chA l j)
def escB (l : List Int) (j : Nat) : Bool := isB l j 92 && !isB l (j + 1) 10
def hxB (l : List Int) (j : Nat) : Bool := decide (0 ≤ hexV (chA l j))
theorem isB_iff {l : List Int} {j : Nat} {c : Int} : isB l j c = true ↔ chA l j = c := by unfold isB; exact decide_eq_true_iff
theorem lt_of_isB {l : List Int} {j : Nat} {c : Int} (h : isB l j c = true) (hc : c ≠ 0) : j < l.length := lt_of_chA (by rw [isB_iff.1 h]; exact hc)
theorem lt_of_spB {l : List Int} {j : Nat} (h : spB l j = true) : j < l.length := lt_of_chA fun h0 => by unfold spB at h; rw [h0] at h; exact absurd h (by decide)
theorem lt_of_dgB {l : List Int} {j : Nat} (h : dgB l j = true) : j < l.length := lt_of_chA fun h0 => by unfold dgB at h; rw [h0] at h; exact absurd h (by decide)
theorem lt_of_stB {l : List Int} {j : Nat} (h : stB l j = true) : j < l.length := lt_of_chA fun h0 => by unfold stB at h; rw [h0] at h; exact absurd h (by decide)
theorem lt_of_nmB {l : List Int} {j : Nat} (h : nmB l j = true) : j < l.length := lt_of_chA fun h0 => by unfold nmB at h; rw [h0] at h; exact absurd h (by decide)
theorem lt_of_hxB {l : List Int} {j : Nat} (h : hxB l j = true) : j < l.length := lt_of_chA fun h0 => by unfold hxB at h; rw [h0] at h; exact absurd h (by decide)
theorem lt_of_escB {l : List Int} {j : Nat} (h : escB l j = true) : j < l.length := lt_of_isB (by unfold escB at h; rw [Bool.and_eq_true] at h; exact h.1) (by decide)
def hexGo : Nat → List Int → Nat → Int → Int × Nat
  | 0, _, i, n => (n, i)
  | f + 1, l, i, n => if hxB l i then hexGo f l (i + 1) (16 * n + hexV (chA l i)) else (n, i)
def cleanF (c : Int) : Int := if c = 0 then 65533 else charOf c
def valueF (l : List Int) (j : Nat) : Int × Nat :=
  if l.length ≤ j + 1 then (65533, j + 1)
  else if (hexGo 6 l (j + 1) 0).2 = j + 1 then (chA l (j + 1), j + 2)
  else (cleanF (hexGo 6 l (j + 1) 0).1, if spB l (hexGo 6 l (j + 1) 0).2 then (hexGo 6 l (j + 1) 0).2 + 1 else (hexGo 6 l (j + 1) 0).2)
def nameAt (l : List Int) (j : Nat) : Bool := if isB l j 45 then isB l (j + 1) 45 || stB l (j + 1) || escB l (j + 1) else stB l j || escB l j
def signAt (l : List Int) (j : Nat) : Nat := if isB l j 43 || isB l j 45 then j + 1 else j
def fracAt (l : List Int) (j : Nat) : Bool := isB l j 46 && dgB l (j + 1)
def numAt (l : List Int) (j : Nat) : Bool := dgB l (signAt l j) || fracAt l (signAt l j)
def namesGo : Nat → List Int → Nat → List Int → List Int × Nat
  | 0, _, j, out => (out, j)
  | f + 1, l, j, out => if nmB l j then namesGo f l (j + 1) (out ++ [chA l j]) else if escB l j then namesGo f l (valueF l j).2 (out ++ [(valueF l j).1]) else (out, j)
def namesF (l : List Int) (j : Nat) : List Int × Nat := namesGo (l.length + 1) l j []
def digitsGo : Nat → List Int → Nat → Nat
  | 0, _, j => j
  | f + 1, l, j => if dgB l j then digitsGo f l (j + 1) else j
def digitsF (l : List Int) (j : Nat) : Nat := digitsGo (l.length + 1) l j
def spacesGo : Nat → List Int → Nat → Nat
  | 0, _, j => j
  | f + 1, l, j => if spB l j then spacesGo f l (j + 1) else j
def spacesF (l : List Int) (j : Nat) : Nat := spacesGo (l.length + 1) l j
def expoB (l : List Int) (j : Nat) : Bool := (isB l j 101 || isB l j 69) && dgB l (signAt l (j + 1))
def expoF (l : List Int) (j : Nat) : Nat := if expoB l j then digitsF l (signAt l (j + 1)) else j
def fracF (l : List Int) (j : Nat) : Nat := if fracAt l j then digitsF l (j + 1) else j
def numberF (l : List Int) (j : Nat) : Nat × Bool :=
  (expoF l (fracF l (digitsF l (signAt l j))), !fracAt l (digitsF l (signAt l j)) && !expoB l (fracF l (digitsF l (signAt l j))))
structure Tk where
  kind : Int
  frm : Nat
  to : Nat
  text : List Int
  num : List Int
  whole : Bool
deriving DecidableEq
def bytesF (l : List Int) : List Int := textF (l.map cleanF)
def sliceF (l : List Int) (i j : Nat) : List Int := (l.drop i).take (j - i)
def numericF (l : List Int) (j : Nat) : Tk :=
  if nameAt l (numberF l j).1 then ⟨12, j, (namesF l (numberF l j).1).2, bytesF (namesF l (numberF l j).1).1, bytesF (sliceF l j (numberF l j).1), (numberF l j).2⟩
  else if isB l (numberF l j).1 37 then ⟨11, j, (numberF l j).1 + 1, [], bytesF (sliceF l j (numberF l j).1), (numberF l j).2⟩
  else ⟨10, j, (numberF l j).1, [], bytesF (sliceF l j (numberF l j).1), (numberF l j).2⟩
def quotedGo : Nat → List Int → Int → Nat → Nat → List Int → Tk
  | 0, _, _, frm, i, out => ⟨5, frm, i, bytesF out, [], false⟩
  | f + 1, l, mark, frm, i, out =>
    if l.length ≤ i then ⟨5, frm, i, bytesF out, [], false⟩
    else if isB l i mark then ⟨5, frm, i + 1, bytesF out, [], false⟩
    else if isB l i 10 then ⟨6, frm, i, [], [], false⟩
    else if !isB l i 92 then quotedGo f l mark frm (i + 1) (out ++ [chA l i])
    else if l.length ≤ i + 1 then quotedGo f l mark frm (i + 1) out
    else if isB l (i + 1) 10 then quotedGo f l mark frm (i + 2) out
    else quotedGo f l mark frm (valueF l i).2 (out ++ [(valueF l i).1])
def quotedF (l : List Int) (j : Nat) : Tk := quotedGo (l.length + 1) l (chA l j) j (j + 1) []
def hiddenB (c : Int) : Bool := decide (c ≤ 8 ∨ c = 11 ∨ (14 ≤ c ∧ c ≤ 31) ∨ c = 127)
def restGo : Nat → List Int → Nat → Nat → Tk
  | 0, l, frm, _ => ⟨8, frm, l.length, [], [], false⟩
  | f + 1, l, frm, i => if l.length ≤ i then ⟨8, frm, l.length, [], [], false⟩ else if isB l i 41 then ⟨8, frm, i + 1, [], [], false⟩ else if escB l i then restGo f l frm (valueF l i).2 else restGo f l frm (i + 1)
def restF (l : List Int) (frm i : Nat) : Tk := restGo (l.length + 1) l frm i
def urlBad (l : List Int) (i : Nat) : Bool := isB l i 34 || isB l i 39 || isB l i 40 || hiddenB (chA l i) || (isB l i 92 && !escB l i)
def urlGo : Nat → List Int → Nat → Nat → List Int → Tk
  | 0, l, frm, _, out => ⟨7, frm, l.length, bytesF out, [], false⟩
  | f + 1, l, frm, i, out =>
    if l.length ≤ spacesF l i then ⟨7, frm, l.length, bytesF out, [], false⟩
    else if isB l (spacesF l i) 41 then ⟨7, frm, spacesF l i + 1, bytesF out, [], false⟩
    else if i < spacesF l i then restF l frm (spacesF l i)
    else if urlBad l i then restF l frm i
    else if isB l i 92 then urlGo f l frm (valueF l i).2 (out ++ [(valueF l i).1])
    else urlGo f l frm (i + 1) (out ++ [chA l i])
def urlF (l : List Int) (frm i : Nat) : Tk := urlGo (l.length + 1) l frm i []
def urlName (bs : List Int) : Bool := decide (bs.map smallF = [117, 114, 108])
def calledF (l : List Int) (j : Nat) : Tk :=
  if !isB l (namesF l j).2 40 then ⟨1, j, (namesF l j).2, bytesF (namesF l j).1, [], false⟩
  else if urlName (bytesF (namesF l j).1) && !isB l (spacesF l ((namesF l j).2 + 1)) 34 && !isB l (spacesF l ((namesF l j).2 + 1)) 39 then urlF l j (spacesF l ((namesF l j).2 + 1))
  else ⟨2, j, (namesF l j).2 + 1, bytesF (namesF l j).1, [], false⟩
def skipGo : Nat → List Int → Nat → Nat
  | 0, l, i => min (i + 2) l.length
  | f + 1, l, i => if l.length ≤ i then min (i + 2) l.length else if isB l i 42 && isB l (i + 1) 47 then min (i + 2) l.length else skipGo f l (i + 1)
def openB (l : List Int) (j : Nat) : Bool := isB l j 47 && isB l (j + 1) 42
def behindGo : Nat → List Int → Nat → Nat
  | 0, _, j => j
  | f + 1, l, j => if openB l j then behindGo f l (skipGo (l.length + 1) l (j + 2)) else j
def behindF (l : List Int) (j : Nat) : Nat := behindGo (l.length + 1) l j
def signKind (c : Int) : Int :=
  if c = 40 then 21 else if c = 41 then 22 else if c = 91 then 19 else if c = 93 then 20 else if c = 123 then 23 else if c = 125 then 24 else if c = 44 then 18 else if c = 58 then 16 else if c = 59 then 17 else 9
def cdcB (l : List Int) (i : Nat) : Bool := isB l i 45 && isB l (i + 1) 45 && isB l (i + 2) 62
def cdoB (l : List Int) (i : Nat) : Bool := isB l i 60 && isB l (i + 1) 33 && isB l (i + 2) 45 && isB l (i + 3) 45
def atSgB (l : List Int) (i : Nat) : Bool := isB l i 64 && nameAt l (i + 1)
def hashB (l : List Int) (i : Nat) : Bool := isB l i 35 && (nmB l (i + 1) || escB l (i + 1))
def tokAt (l : List Int) (i : Nat) : Tk :=
  if l.length ≤ i then ⟨0, l.length, l.length, [], [], false⟩
  else if spB l i then ⟨13, i, spacesF l i, [], [], false⟩
  else if isB l i 34 || isB l i 39 then quotedF l i
  else if numAt l i then numericF l i
  else if cdcB l i then ⟨15, i, i + 3, [], [], false⟩
  else if nameAt l i then calledF l i
  else if cdoB l i then ⟨14, i, i + 4, [], [], false⟩
  else if atSgB l i then ⟨3, i, (namesF l (i + 1)).2, bytesF (namesF l (i + 1)).1, [], false⟩
  else if hashB l i then ⟨4, i, (namesF l (i + 1)).2, bytesF (namesF l (i + 1)).1, [], nameAt l (i + 1)⟩
  else if signKind (chA l i) = 9 then ⟨9, i, i + 1, bytesF [chA l i], [], false⟩
  else ⟨signKind (chA l i), i, i + 1, [], [], false⟩
def nextF (l : List Int) (j : Nat) : Tk := tokAt l (behindF l j)
def allGo : Nat → List Int → Nat → List Tk → List Tk
  | 0, _, _, out => out
  | f + 1, l, j, out => if (nextF l j).kind = 0 then out ++ [nextF l j] else allGo f l (nextF l j).to (out ++ [nextF l j])
def allF (l : List Int) : List Tk := allGo (l.length + 1) l 0 []
def toksF (zs : List Int) : List Tk := allF (prepF (charsF zs))
example : toksF [97, 92, 50, 54, 32, 98] = [⟨1, 0, 6, [97, 38, 98], [], false⟩, ⟨0, 6, 6, [], [], false⟩] := by decide +kernel
example : toksF [49, 46, 53, 101, 51, 112, 120] = [⟨12, 0, 7, [112, 120], [49, 46, 53, 101, 51], false⟩, ⟨0, 7, 7, [], [], false⟩] := by decide +kernel
example : toksF [50, 110, 32, 43, 32, 49] = [⟨12, 0, 2, [110], [50], true⟩, ⟨13, 2, 3, [], [], false⟩, ⟨9, 3, 4, [43], [], false⟩, ⟨13, 4, 5, [], [], false⟩, ⟨10, 5, 6, [], [49], true⟩, ⟨0, 6, 6, [], [], false⟩] := by decide +kernel
end

section
open Go.RowKit
structure Src (w : World) (a : Option Addr) (n cap : Nat) (l : List Int) : Prop where
  rd : Reads w .i64 a cap l
  len : l.length = n
  pre : Pre l
  small : n ≤ 100000
theorem Src.later {w w' : World} {a : Option Addr} {n cap : Nat} {l : List Int} (h : Src w a n cap l) (hb : Below w.heap.size w w') : Src w' a n cap l := ⟨h.rd.later hb, h.len, h.pre, h.small⟩
theorem Src.cell {w : World} {a : Option Addr} {n cap : Nat} {l : List Int} (h : Src w a n cap l) (k : Nat) (hk : k < n) :
    ∃ b off, a = some ⟨b, off, none⟩ ∧ w.cell? ⟨b, off + k, none⟩ = some (.int .i64 (chA l k)) := by
  obtain ⟨_, _, h3⟩ := h.rd
  rcases h3 with h3 | ⟨b, off, e, hat⟩
  · rw [← h.len, h3] at hk; simp at hk
  · exact ⟨b, off, e, hat.2 k (by rw [h.len]; exact hk)⟩
theorem Src.cap {w : World} {a : Option Addr} {n cap : Nat} {l : List Int} (h : Src w a n cap l) : n ≤ cap ∧ cap ≤ 9223372036854775807 := by
  have h1 := h.rd.1; have h2 := h.rd.2.1; unfold maxLen at h2; have h2 : cap ≤ 9223372036854775807 := h2; rw [h.len] at h1; exact ⟨h1, h2⟩
theorem spacesGo_stop {l : List Int} {j : Nat} (f : Nat) (h : spB l j = false) : spacesGo f l j = j := by
  rcases f with _ | f
  · rfl
  · rw [spacesGo, if_neg (by rw [h]; decide)]
theorem behindGo_stop {l : List Int} {j : Nat} (f : Nat) (h : openB l j = false) : behindGo f l j = j := by
  rcases f with _ | f
  · rfl
  · rw [behindGo, if_neg (by rw [h]; decide)]
theorem hexGo_le (l : List Int) : ∀ (f i : Nat) (m : Int), i ≤ (hexGo f l i m).2 ∧ (i ≤ l.length → (hexGo f l i m).2 ≤ l.length)
  | 0, i, m => ⟨Nat.le_refl _, fun h => h⟩
  | f + 1, i, m => by
    rw [hexGo]
    by_cases h : hxB l i = true
    · rw [if_pos h]
      obtain ⟨h1, h2⟩ := hexGo_le l f (i + 1) (16 * m + hexV (chA l i))
      exact ⟨by omega, fun _ => h2 (lt_of_hxB h)⟩
    · rw [if_neg h]; exact ⟨Nat.le_refl _, fun h => h⟩
theorem valueF_bd {l : List Int} {j : Nat} (h : j < l.length) : j < (valueF l j).2 ∧ (valueF l j).2 ≤ l.length := by
  unfold valueF
  by_cases h1 : l.length ≤ j + 1
  · rw [if_pos h1]; exact ⟨Nat.lt_succ_self _, by omega⟩
  · rw [if_neg h1]
    obtain ⟨g1, g2⟩ := hexGo_le l 6 (j + 1) 0
    have g2 := g2 (by omega)
    by_cases h2 : (hexGo 6 l (j + 1) 0).2 = j + 1
    · rw [if_pos h2]; exact ⟨by show j < j + 2; omega, by show j + 2 ≤ l.length; omega⟩
    · rw [if_neg h2]
      by_cases h3 : spB l (hexGo 6 l (j + 1) 0).2 = true
      · rw [if_pos h3]
        have := lt_of_spB h3
        exact ⟨by show j < _ + 1; omega, by show _ + 1 ≤ l.length; omega⟩
      · rw [if_neg h3]; exact ⟨by show j < _; omega, g2⟩
def tkCells (t : Tk) : List Value := [.int .i64 t.kind, .int .i64 t.frm, .int .i64 t.to, .string (strOfNums t.text), .string (strOfNums t.num), .bool t.whole]
def tkV (t : Tk) : Value := .agg (tkCells t).toArray
theorem Src.part {w : World} {b off n cap : Nat} {l : List Int} (h : Src w (some ⟨b, off, none⟩) n cap l) (i j : Nat) (hij : i ≤ j) (hj : j ≤ n) :
    Reads w .i64 (some ⟨b, off + i, none⟩) (cap - i) (sliceF l i j) ∧ (sliceF l i j).length = j - i := by
  obtain ⟨h1, h2, h3⟩ := h.rd
  have hl : (sliceF l i j).length = j - i := by unfold sliceF; rw [List.length_take, List.length_drop, h.len]; omega
  refine ⟨⟨by rw [hl]; rw [h.len] at h1; omega, by omega, ?_⟩, hl⟩
  rcases h3 with h3 | ⟨b', off', e, hat⟩
  · left
    have := h.len
    rw [h3] at this
    simp at this
    exact List.length_eq_zero_iff.1 (by rw [hl]; omega)
  · cases e
    right
    exact ⟨_, _, rfl, (hat.drop i).take (j - i)⟩
theorem namesGo_le (l : List Int) : ∀ (f j : Nat) (out : List Int), j ≤ (namesGo f l j out).2 ∧ (j ≤ l.length → (namesGo f l j out).2 ≤ l.length)
  | 0, j, out => ⟨Nat.le_refl _, fun h => h⟩
  | f + 1, j, out => by
    rw [namesGo]
    by_cases h : nmB l j = true
    · rw [if_pos h]
      obtain ⟨h1, h2⟩ := namesGo_le l f (j + 1) (out ++ [chA l j])
      exact ⟨by omega, fun _ => h2 (lt_of_nmB h)⟩
    · rw [if_neg h]
      by_cases he : escB l j = true
      · rw [if_pos he]
        obtain ⟨v1, v2⟩ := valueF_bd (lt_of_escB he)
        obtain ⟨h1, h2⟩ := namesGo_le l f (valueF l j).2 (out ++ [(valueF l j).1])
        exact ⟨by omega, fun _ => h2 v2⟩
      · rw [if_neg he]; exact ⟨Nat.le_refl _, fun h => h⟩
theorem namesF_le (l : List Int) (j : Nat) : j ≤ (namesF l j).2 ∧ (j ≤ l.length → (namesF l j).2 ≤ l.length) := namesGo_le l _ j []
theorem spacesGo_le (l : List Int) : ∀ (f j : Nat), j ≤ spacesGo f l j ∧ (j ≤ l.length → spacesGo f l j ≤ l.length)
  | 0, j => ⟨Nat.le_refl _, fun h => h⟩
  | f + 1, j => by
    rw [spacesGo]
    by_cases h : spB l j = true
    · rw [if_pos h]
      obtain ⟨h1, h2⟩ := spacesGo_le l f (j + 1)
      exact ⟨by omega, fun _ => h2 (lt_of_spB h)⟩
    · rw [if_neg h]; exact ⟨Nat.le_refl _, fun h => h⟩
theorem spacesF_pos {l : List Int} {j : Nat} (h : spB l j = true) : j < spacesF l j := by
  unfold spacesF
  rw [spacesGo, if_pos h]
  have := (spacesGo_le l l.length (j + 1)).1
  omega
theorem spacesF_le (l : List Int) (j : Nat) : j ≤ l.length → spacesF l j ≤ l.length := (spacesGo_le l _ j).2
theorem stB_nmB {l : List Int} {j : Nat} (h : stB l j = true) : nmB l j = true := by
  unfold stB at h; unfold nmB nameB; rw [h]; rfl
theorem namesF_pos {l : List Int} {j : Nat} (h : (nmB l j || escB l j) = true) : j < (namesF l j).2 := by
  unfold namesF
  rw [namesGo]
  by_cases hn : nmB l j = true
  · rw [if_pos hn]
    have := (namesGo_le l l.length (j + 1) ([] ++ [chA l j])).1
    omega
  · have he : escB l j = true := by simpa [hn] using h
    rw [if_neg hn, if_pos he]
    have h1 := (valueF_bd (lt_of_escB he)).1
    have := (namesGo_le l l.length (valueF l j).2 ([] ++ [(valueF l j).1])).1
    omega
theorem nameAt_first {l : List Int} {j : Nat} (h : nameAt l j = true) : (nmB l j || escB l j) = true := by
  unfold nameAt at h
  by_cases h45 : isB l j 45 = true
  · have : nmB l j = true := by unfold nmB nameB; rw [isB_iff.1 h45]; decide
    rw [this]; rfl
  · rw [if_neg h45] at h
    rcases hs : stB l j with _ | _
    · rw [hs] at h; rw [show escB l j = true from by simpa using h]; simp
    · rw [stB_nmB hs]; rfl
end

section
open Go.RowKit
theorem freeze_new (w : World) (C : Array Value) (e : TypeId) (m : Nat) : (w.alloc (.cells C e)).freeze ⟨w.heap.size, m, none⟩ 1 = w.alloc (.cells C e (m, m + 1)) := by
  have hm : ∀ (a : Array Obj) (x : Obj) (f : Obj → Obj), (a.push x).modify a.size f = a.push (f x) := by
    intro a x f
    apply Array.ext
    · simp
    · intro i h1 h2
      simp only [Array.getElem_modify, Array.getElem_push]
      by_cases h : a.size = i
      · subst h
        simp
      · have hi : i < a.size := by simp at h1; omega
        simp [h, hi]
  unfold World.freeze
  rw [if_neg (by decide)]
  show ({ w.alloc (.cells C e) with heap := (w.heap.push (.cells C e)).modify w.heap.size _ } : World) = _
  rw [hm]
  rfl
theorem conv_bytes (w : World) (C : Array Value) (n c : Nat) : (convert 48 48 (.slice (some ⟨w.heap.size, 0, none⟩) n c)).run Tryz.prog (w.alloc (.cells C 5)) = .ok (.slice (some ⟨w.heap.size, 0, none⟩) n c) (w.alloc (.cells C 5 (C.size, C.size + 1))) := by
  have hsh : (w.alloc (.cells C 5)).shape? w.heap.size = some (5, C.size) := by
    have : (w.alloc (.cells C 5)).heap[w.heap.size]? = some (.cells C 5) := by
      show (w.heap.push (.cells C 5))[w.heap.size]? = _
      simp
    unfold World.shape?
    rw [this]
  simp [convert, run_underlying Tryz.underlying48, run_underlying Tryz.underlying5, markStringish, hsh, freeze_new]
theorem reads_marked (w : World) (k : IntKind) (zs : List Int) (T : TypeId) (m : Nat × Nat) (n : Nat) (hn : zs.length = n) (hm : n ≤ maxLen) : Reads (w.alloc (.cells (zs.map (Value.int k)).toArray T m)) k (some ⟨w.heap.size, 0, none⟩) n zs := by
  subst hn
  refine ⟨Nat.le_refl _, hm, .inr ⟨_, _, rfl, by simp, fun j hj => ?_⟩⟩
  have hh := heap_alloc_new w (.cells (zs.map (Value.int k)).toArray T m)
  rw [Nat.zero_add]
  simp only [World.cell?, hh]
  simp [List.getElem?_eq_getElem hj]
end

section
open Go.RowKit
def ReadsT (w : World) (a : Option Addr) (cap : Nat) (ts : List Tk) : Prop :=
  ts.length ≤ cap ∧ cap ≤ maxLen ∧ ∃ b, a = some ⟨b, 0, none⟩ ∧ b < w.heap.size ∧ ∀ j v, (ts.flatMap tkCells)[j]? = some v → w.cell? ⟨b, j, none⟩ = some v
theorem ReadsT.later {w w' : World} {a : Option Addr} {cap : Nat} {ts : List Tk} (h : ReadsT w a cap ts) (hb : Below w.heap.size w w') : ReadsT w' a cap ts := by
  obtain ⟨h1, h2, b, rfl, hlt, hc⟩ := h
  exact ⟨h1, h2, b, rfl, Nat.lt_of_lt_of_le hlt hb.size, fun j v hv => (hb.cell (p := ⟨b, j, none⟩) hlt).trans (hc j v hv)⟩
def TksPost (ts : List Tk) (w : World) (e : Ending) (w' : World) : Prop := ∃ a cap, e = .returned (.slice a ts.length cap) ∧ ReadsT w' a cap ts ∧ Below w.heap.size w w'
theorem Tryz.infoTok : (Tryz.prog.info? 93).map (fun i => (i.zero, i.size, i.bytes)) = some (some (.agg #[.int .i64 0, .int .i64 0, .int .i64 0, .string ⟨#[]⟩, .string ⟨#[]⟩, .bool false]), 6, 64) := by kernel_rfl
theorem tk_cells (t : Tk) : ∀ u ∈ tkCells t, u.oneCell' = true := by
  intro u hu
  unfold tkCells at hu
  simp only [List.mem_cons, List.not_mem_nil, or_false] at hu
  rcases hu with rfl | rfl | rfl | rfl | rfl | rfl <;> rfl
end

section
open Go.RowKit
set_option linter.unusedVariables false
set_option linter.unusedSimpArgs false
structure Es where
  err : Int
  at' : Int
  lack : Int
  seen : Bool
deriving DecidableEq
structure Ey where
  lb : Nat
  lc : Nat
  hd : Bool
  df : ByteArray
  pa : Option Addr
  pn : Nat
  pc : Nat
  sa : Option Addr
  sn : Nat
  sc : Nat
def lastTo (ts : List Tk) : Nat := match ts[ts.length - 1]? with | some t => t.to | none => 0
def eTok (ts : List Tk) (i : Nat) : Tk := match ts[i]? with | some t => t | none => ⟨0, lastTo ts, lastTo ts, [], [], false⟩
def eFail (ts : List Tk) (st : Es) (k : Int) (i : Nat) : Es := if st.err = 0 then { st with err := k, at' := (eTok ts i).frm } else st
def eSign (ts : List Tk) (i : Nat) (s : ByteArray) : Bool := decide ((eTok ts i).kind = 9) && decide (strOfNums (eTok ts i).text = s)
def eName (ts : List Tk) (i : Nat) : Bool := decide ((eTok ts i).kind = 1)
def blanksGo : Nat → List Tk → Nat → Nat
  | 0, _, i => i
  | f + 1, ts, i => if (eTok ts i).kind = 13 then blanksGo f ts (i + 1) else i
def eBlanks (ts : List Tk) (i : Nat) : Nat := blanksGo (ts.length - i) ts i
def eComb (ts : List Tk) (i : Nat) : Int := if eSign ts i ⟨#[62]⟩ then 2 else if eSign ts i ⟨#[43]⟩ then 3 else if eSign ts i ⟨#[126]⟩ then 4 else 0
def ePrefix (ts : List Tk) (i : Nat) (attr : Bool) : Nat :=
  let n := if eName ts i || eSign ts i ⟨#[42]⟩ then i + 1 else i
  if eSign ts n ⟨#[124]⟩ && (eName ts (n + 1) || (!attr && eSign ts (n + 1) ⟨#[42]⟩)) then n + 1 else i
theorem eTok_none {ts : List Tk} {i : Nat} (h : ts.length ≤ i) : (eTok ts i).kind = 0 := by unfold eTok; rw [List.getElem?_eq_none h]
theorem eBlanks_step (ts : List Tk) (i : Nat) : eBlanks ts i = if (eTok ts i).kind = 13 then eBlanks ts (i + 1) else i := by
  unfold eBlanks
  by_cases h : i < ts.length
  · rw [show ts.length - i = (ts.length - (i + 1)) + 1 by omega]; rfl
  · rw [show ts.length - i = 0 by omega, if_neg (by rw [eTok_none (by omega)]; decide)]; rfl
theorem eBlanks_le (ts : List Tk) : ∀ (f i : Nat), ts.length - i ≤ f → i ≤ ts.length → eBlanks ts i ≤ ts.length
  | 0, i, h, hi => by rw [eBlanks_step, if_neg (by rw [eTok_none (by omega)]; decide)]; exact hi
  | f + 1, i, h, hi => by
    rw [eBlanks_step]
    split
    · rename_i h1
      by_cases hl : i < ts.length
      · exact eBlanks_le ts f (i + 1) (by omega) (by omega)
      · rw [eTok_none (by omega)] at h1; cases h1
    · exact hi
theorem eBlanks_max (ts : List Tk) (i : Nat) : eBlanks ts i ≤ max i ts.length := by
  by_cases h : i ≤ ts.length
  · exact Nat.le_trans (eBlanks_le ts _ i (Nat.le_refl _) h) (Nat.le_max_right _ _)
  · rw [eBlanks_step, if_neg (by rw [eTok_none (by omega)]; decide)]; exact Nat.le_max_left _ _
def eyCells (E : Ey) (n : Nat) (st : Es) : List Value := [.slice (some ⟨E.lb, 0, none⟩) n E.lc, .bool E.hd, .string E.df, .slice E.pa E.pn E.pc, .slice E.sa E.sn E.sc, .int .i64 st.err, .int .i64 st.at', .int .i64 st.lack, .bool st.seen]
def TxtAt (w : World) (b o : Nat) (s : ByteArray) : Prop := w.cell? ⟨b, o, none⟩ = some (.string s)
structure EyeAt (w : World) (p : Nat) (E : Ey) (ts : List Tk) (ps : List ByteArray) (st : Es) : Prop where
  blk : Blk w p (eyCells E ts.length st) 96
  toks : ReadsT w (some ⟨E.lb, 0, none⟩) E.lc ts
  pres : RsOf (fun b => b < w.heap.size ∧ b ≠ p) 1 (TxtAt w) E.pa E.pn E.pc ps
  hb : E.lb ≠ p
  small : ts.length ≤ 1000000
  pos : 0 < ts.length
theorem TxtAt.move {w w' : World} {b o : Nat} {s : ByteArray} (h : TxtAt w b o s) (hb : w'.heap[b]? = w.heap[b]?) : TxtAt w' b o s := by unfold TxtAt at *; rw [cell_sameS hb]; exact h
def GB (w w' : World) (p : Nat) : Prop := w.grownBy w' (some p)
theorem GB.trans {a b c : World} {p : Nat} (h : GB a b p) (k : GB b c p) : GB a c p := grown_trans h k
theorem GB.of_below {w w' : World} {p : Nat} (h : Below w.heap.size w w') : GB w w' p := ⟨h.os, h.tape, h.output, h.size, fun i hi _ => h.block i hi⟩
theorem EyeAt.grown {w w' : World} {p : Nat} {E : Ey} {ts : List Tk} {ps : List ByteArray} {st st' : Es} (h : EyeAt w p E ts ps st) (hg : GB w w' p) (hB : Blk w' p (eyCells E ts.length st') 96) : EyeAt w' p E ts ps st' := by
  refine ⟨hB, ?_, RsOf.imp h.pres (fun b hb => ⟨Nat.lt_of_lt_of_le hb.1 hg.size, hb.2⟩) (fun b o x hb hx => hx.move (hg.block b hb.1 (fun e => hb.2 (Option.some.inj e)))), h.hb, h.small, h.pos⟩
  obtain ⟨h1, h2, b, hb, hlt, hc⟩ := h.toks
  cases hb
  exact ⟨h1, h2, E.lb, rfl, Nat.lt_of_lt_of_le hlt hg.size, fun j v hv => (cell_sameS (hg.block E.lb hlt (fun e => h.hb (Option.some.inj e))) j).trans (hc j v hv)⟩
theorem EyeAt.later {w w' : World} {p : Nat} {E : Ey} {ts : List Tk} {ps : List ByteArray} {st : Es} (h : EyeAt w p E ts ps st) (hb : Below w.heap.size w w') : EyeAt w' p E ts ps st :=
  h.grown (GB.of_below hb) (h.blk.later hb h.blk.lt)
theorem flat_get : ∀ (ts : List Tk) (i f : Nat) (t : Tk), ts[i]? = some t → f < 6 → (ts.flatMap tkCells)[i * 6 + f]? = (tkCells t)[f]?
  | [], _, _, _, h, _ => by simp at h
  | t0 :: ts, 0, f, t, h, hf => by
    simp at h
    subst h
    rw [List.flatMap_cons, List.getElem?_append_left (by show _ < 6; omega)]
    simp
  | t0 :: ts, i + 1, f, t, h, hf => by
    rw [List.flatMap_cons, List.getElem?_append_right (by show 6 ≤ _; omega)]
    rw [show (i + 1) * 6 + f - (tkCells t0).length = i * 6 + f from by show (i + 1) * 6 + f - 6 = _; omega]
    exact flat_get ts i f t (by simpa using h) hf
theorem EyeAt.tk {w : World} {p : Nat} {E : Ey} {ts : List Tk} {ps : List ByteArray} {st : Es} (h : EyeAt w p E ts ps st) {i : Nat} {t : Tk} (ht : ts[i]? = some t) {f : Nat} {v : Value} (hv : (tkCells t)[f]? = some v) : w.cell? ⟨E.lb, i * 6 + f, none⟩ = some v := by
  obtain ⟨_, _, b, hb, _, hc⟩ := h.toks
  cases hb
  have hf : f < 6 := (List.getElem?_eq_some_iff.1 hv).1
  exact hc _ v ((flat_get ts i f t ht hf).trans hv)
set_option maxRecDepth 100000 in
set_option maxHeartbeats 4000000 in
theorem tok_in {w : World} {p : Nat} {E : Ey} {ts : List Tk} {ps : List ByteArray} {st : Es} (h : EyeAt w p E ts ps st) (i n : Nat) (hn : n = ts.length) (t : Tk) (ht : ts[i]? = some t) :
    Calls Tryz.prog 55 #[.pointer (some ⟨p, 0, none⟩), .int .i64 i] w (Told (tkV t) w) := by
  have hin : i < n := by rw [hn]; exact (List.getElem?_eq_some_iff.1 ht).1
  obtain ⟨w0, hw0⟩ : ∃ w0, w.alloc (.cells #[.int .i64 0, .int .i64 0, .int .i64 0, .string ⟨#[]⟩, .string ⟨#[]⟩, .bool false] 93) = w0 := ⟨_, rfl⟩
  have hb0 : Below w.heap.size w w0 := by rw [← hw0]; exact (Below.refl _ _).alloc (Nat.le_refl _) _
  have R0 : Blk w0 w.heap.size [.int .i64 0, .int .i64 0, .int .i64 0, .string ⟨#[]⟩, .string ⟨#[]⟩, .bool false] 93 := by rw [← hw0]; exact Blk.alloc _ _
  have h0 := h.later hb0
  have c0 := h0.blk.cell 0 _ rfl
  rw [← hn] at c0
  have t0 := h0.tk ht (f := 0) rfl
  have t1 := h0.tk ht (f := 1) rfl
  have t2 := h0.tk ht (f := 2) rfl
  have t3 := h0.tk ht (f := 3) rfl
  have t4 := h0.tk ht (f := 4) rfl
  have t5 := h0.tk ht (f := 5) rfl
  have hsm := h.small
  rw [Nat.add_zero] at t0
  have y0 := R0.cell 0 _ rfl
  have y1 := R0.cell 1 _ rfl
  have y2 := R0.cell 2 _ rfl
  have y3 := R0.cell 3 _ rfl
  have y4 := R0.cell 4 _ rfl
  have y5 := R0.cell 5 _ rfl
  have g0 := R0.frozen 0
  have g1 := R0.frozen 1
  have g2 := R0.frozen 2
  have g3 := R0.frozen 3
  have g4 := R0.frozen 4
  have g5 := R0.frozen 5
  have F := (((((R0.setCell 0 (.int .i64 t.kind)).setCell 1 (.int .i64 t.frm)).setCell 2 (.int .i64 t.to)).setCell 3 (.string (strOfNums t.text))).setCell 4 (.string (strOfNums t.num))).setCell 5 (.bool t.whole)
  have hbF := (((((hb0.setCell (p := ⟨w.heap.size, 0, none⟩) (Nat.le_refl _) (.int .i64 t.kind)).setCell (p := ⟨w.heap.size, 1, none⟩) (Nat.le_refl _) (.int .i64 t.frm)).setCell (p := ⟨w.heap.size, 2, none⟩) (Nat.le_refl _) (.int .i64 t.to)).setCell (p := ⟨w.heap.size, 3, none⟩) (Nat.le_refl _) (.string (strOfNums t.text))).setCell (p := ⟨w.heap.size, 4, none⟩) (Nat.le_refl _) (.string (strOfNums t.num))).setCell (p := ⟨w.heap.size, 5, none⟩) (Nat.le_refl _) (.bool t.whole)
  have r0 := F.cell 0 _ rfl
  have r1 := F.cell 1 _ rfl
  have r2 := F.cell 2 _ rfl
  have r3 := F.cell 3 _ rfl
  have r4 := F.cell 4 _ rfl
  have r5 := F.cell 5 _ rfl
  have HBF := Lib.hid hbF
  have hiI : (0 : Int) ≤ (i : Int) := by omega
  have hiI2 : (i : Int) < (n : Int) := by omega
  have hnm : n ≤ 9223372036854775807 := by omega
  have HW0 := Lib.hid hw0
  clear h h0 hb0 R0 F hbF ht hn hsm
  go_enter Tryz.func55, Tryz.ntmps55
  go_wp2
  refine bodyPost_ret (v := tkV t) (by simp [results, Tryz.results55, go_sem, tkV, tkCells, r0, r1, r2, r3, r4, r5]) rfl ⟨rfl, HBF.out⟩
end

section
open Go.RowKit
set_option linter.unusedVariables false
set_option linter.unusedSimpArgs false
set_option maxRecDepth 100000 in
set_option maxHeartbeats 4000000 in
theorem tok_out {w : World} {p : Nat} {E : Ey} {ts : List Tk} {ps : List ByteArray} {st : Es} (h : EyeAt w p E ts ps st) (i m : Nat) (hn : m + 1 = ts.length) (hi : m + 1 ≤ i) (hi2 : i ≤ 4000000) :
    Calls Tryz.prog 55 #[.pointer (some ⟨p, 0, none⟩), .int .i64 i] w (Told (tkV (eTok ts i)) w) := by
  obtain ⟨t, ht⟩ : ∃ t, ts[m]? = some t := ⟨_, List.getElem?_eq_getElem (by omega)⟩
  obtain ⟨lt, hlt⟩ : ∃ lt, lt = t.to := ⟨_, rfl⟩
  have he : eTok ts i = ⟨0, lt, lt, [], [], false⟩ := by
    unfold eTok lastTo
    rw [List.getElem?_eq_none (by omega), show ts.length - 1 = m by omega, ht, hlt]
  rw [he]
  have hb0 : Below w.heap.size w (w.alloc (.cells #[.int .i64 0, .int .i64 0, .int .i64 0, .string ⟨#[]⟩, .string ⟨#[]⟩, .bool false] 93)) := (Below.refl _ _).alloc (Nat.le_refl _) _
  have hb1 : Below w.heap.size w ((w.alloc (.cells #[.int .i64 0, .int .i64 0, .int .i64 0, .string ⟨#[]⟩, .string ⟨#[]⟩, .bool false] 93)).alloc (.cells #[.int .i64 0, .int .i64 0, .int .i64 0, .string ⟨#[]⟩, .string ⟨#[]⟩, .bool false] 93)) := hb0.alloc hb0.size _
  have R0 : Blk ((w.alloc (.cells #[.int .i64 0, .int .i64 0, .int .i64 0, .string ⟨#[]⟩, .string ⟨#[]⟩, .bool false] 93)).alloc (.cells #[.int .i64 0, .int .i64 0, .int .i64 0, .string ⟨#[]⟩, .string ⟨#[]⟩, .bool false] 93)) w.heap.size [.int .i64 0, .int .i64 0, .int .i64 0, .string ⟨#[]⟩, .string ⟨#[]⟩, .bool false] 93 := (Blk.alloc [.int .i64 0, .int .i64 0, .int .i64 0, .string ⟨#[]⟩, .string ⟨#[]⟩, .bool false] _).alloc_old _
  have R1 : Blk ((w.alloc (.cells #[.int .i64 0, .int .i64 0, .int .i64 0, .string ⟨#[]⟩, .string ⟨#[]⟩, .bool false] 93)).alloc (.cells #[.int .i64 0, .int .i64 0, .int .i64 0, .string ⟨#[]⟩, .string ⟨#[]⟩, .bool false] 93)) (w.heap.size + 1) [.int .i64 0, .int .i64 0, .int .i64 0, .string ⟨#[]⟩, .string ⟨#[]⟩, .bool false] 93 := by
    have := Blk.alloc (w := (w.alloc (.cells #[.int .i64 0, .int .i64 0, .int .i64 0, .string ⟨#[]⟩, .string ⟨#[]⟩, .bool false] 93))) [.int .i64 0, .int .i64 0, .int .i64 0, .string ⟨#[]⟩, .string ⟨#[]⟩, .bool false] 93
    rwa [World.size_alloc] at this
  have h1 := h.later hb1
  have hz0 := h.later hb0
  have b0 := h.later hb0
  have a0 := b0.blk.cell 0 _ rfl
  have c0 := h1.blk.cell 0 _ rfl
  rw [← hn] at c0 a0
  have aw := h.blk.cell 0 _ rfl
  rw [← hn] at aw
  have t2 := h1.tk ht (f := 2) rfl
  rw [← hlt] at t2
  have d0 : ((w.alloc (.cells #[.int .i64 0, .int .i64 0, .int .i64 0, .string ⟨#[]⟩, .string ⟨#[]⟩, .bool false] 93)).alloc (.cells #[.int .i64 0, .int .i64 0, .int .i64 0, .string ⟨#[]⟩, .string ⟨#[]⟩, .bool false] 93)).drew.cell? ⟨p, 0, none⟩ = _ := c0
  have d2 : ((w.alloc (.cells #[.int .i64 0, .int .i64 0, .int .i64 0, .string ⟨#[]⟩, .string ⟨#[]⟩, .bool false] 93)).alloc (.cells #[.int .i64 0, .int .i64 0, .int .i64 0, .string ⟨#[]⟩, .string ⟨#[]⟩, .bool false] 93)).drew.cell? ⟨E.lb, m * 6 + 2, none⟩ = _ := t2
  have hsm := h.small
  have F : Blk ((w.alloc (.cells #[.int .i64 0, .int .i64 lt, .int .i64 lt, .string ⟨#[]⟩, .string ⟨#[]⟩, .bool false] 93)).alloc (.cells #[.int .i64 0, .int .i64 lt, .int .i64 lt, .string ⟨#[]⟩, .string ⟨#[]⟩, .bool false] 93)).drew w.heap.size [.int .i64 0, .int .i64 lt, .int .i64 lt, .string ⟨#[]⟩, .string ⟨#[]⟩, .bool false] 93 := (Blk.alloc [.int .i64 0, .int .i64 lt, .int .i64 lt, .string ⟨#[]⟩, .string ⟨#[]⟩, .bool false] _).alloc_old _
  have hbF : Below w.heap.size w ((w.alloc (.cells #[.int .i64 0, .int .i64 lt, .int .i64 lt, .string ⟨#[]⟩, .string ⟨#[]⟩, .bool false] 93)).alloc (.cells #[.int .i64 0, .int .i64 lt, .int .i64 lt, .string ⟨#[]⟩, .string ⟨#[]⟩, .bool false] 93)).drew := (((Below.refl _ _).alloc (Nat.le_refl _) _).alloc (by simp) _).drew
  have r0 := F.cell 0 _ rfl
  have r1 := F.cell 1 _ rfl
  have r2 := F.cell 2 _ rfl
  have r3 := F.cell 3 _ rfl
  have r4 := F.cell 4 _ rfl
  have r5 := F.cell 5 _ rfl
  have HBF := Lib.hid hbF
  have HF := Lib.hid F
  have hiI : ¬ (i : Int) < ((m : Int) + 1) := by omega
  have hnm : m + 1 ≤ 9223372036854775807 := by omega
  have hmI : (m : Int) ≤ 1000000 := by omega
  clear h h1 hz0 b0 hb0 hb1 R0 R1 F hbF ht hn hsm he hlt t2 hi r0 r1 r2 r3 r4 r5
  go_enter Tryz.func55, Tryz.ntmps55
  go_wp2
  have qp : (0 : Int) < (m : Int) + 1 := by omega
  have qd : (0 : Int) ≤ (m : Int) := by omega
  have qe : (m : Int) < (m : Int) + 1 := by omega
  have qc : (0 : Int) ≤ (m : Int) ∧ (m : Int) < (m : Int) + 1 := by omega
  go_region
  go_wp2
  have r0 := HF.out.cell 0 _ rfl
  have r1 := HF.out.cell 1 _ rfl
  have r2 := HF.out.cell 2 _ rfl
  have r3 := HF.out.cell 3 _ rfl
  have r4 := HF.out.cell 4 _ rfl
  have r5 := HF.out.cell 5 _ rfl
  refine bodyPost_ret (v := tkV ⟨0, lt, lt, [], [], false⟩) (by simp [results, Tryz.results55, go_sem, tkV, tkCells, r0, r1, r2, r3, r4, r5]; rfl) rfl ⟨rfl, HBF.out⟩
theorem tok_any {w : World} {p : Nat} {E : Ey} {ts : List Tk} {ps : List ByteArray} {st : Es} (h : EyeAt w p E ts ps st) (i : Nat) (hi2 : i ≤ 4000000) :
    Calls Tryz.prog 55 #[.pointer (some ⟨p, 0, none⟩), .int .i64 i] w (Told (tkV (eTok ts i)) w) := by
  have hp := h.pos
  by_cases hi : i < ts.length
  · have := tok_in h i ts.length rfl ts[i] (List.getElem?_eq_getElem hi)
    have he : eTok ts i = ts[i] := by unfold eTok; rw [List.getElem?_eq_getElem hi]
    rwa [he]
  · exact tok_out h i (ts.length - 1) (by omega) (by omega) hi2
end

section
open Go.RowKit
set_option maxRecDepth 100000 in
set_option maxHeartbeats 1000000 in
theorem ris_any {a : Option Addr} {n cap : Nat} {l : List Int} {w : World} (i : Int) (k : Nat) (c : Int) (h : Src w a n cap l) (hi : i = (k : Int)) (hc : c ≠ 0) :
    Calls Tryz.prog 77 #[.slice a n cap, .int .i64 i, .int .i64 c] w (Tells (.bool (isB l k c)) w) := by
  subst hi
  obtain ⟨hcap1, hcap2⟩ := h.cap
  by_cases hk : k < n
  · obtain ⟨b, off, rfl, hcell⟩ := h.cell k hk
    have q : (chA l k == c) = isB l k c := by unfold isB; rfl
    have hlt : (k : Int) < (n : Int) := by omega
    clear h hk hc
    generalize chA l k = v at *
    generalize isB l k c = r at *
    go_enter Tryz.func77, Tryz.ntmps77
    go_wp2
    go_ret
    exact ⟨rfl, rfl⟩
  · have q : isB l k c = false := decide_eq_false (by rw [chA_end l k (by rw [h.len]; omega)]; exact fun e => hc e.symm)
    rw [q]
    have hlt : ¬ (k : Int) < (n : Int) := by omega
    clear h hk hc q
    go_enter Tryz.func77, Tryz.ntmps77
    go_wp2
    go_ret
    exact ⟨rfl, rfl⟩
set_option maxRecDepth 100000 in
set_option maxHeartbeats 1000000 in
theorem rspaceAt {a : Option Addr} {n cap : Nat} {l : List Int} {w : World} (i : Int) (k : Nat) (h : Src w a n cap l) (hi : i = (k : Int)) :
    Calls Tryz.prog 73 #[.slice a n cap, .int .i64 i] w (Tells (.bool (spB l k)) w) := by
  subst hi
  obtain ⟨hcap1, hcap2⟩ := h.cap
  by_cases hk : k < n
  · obtain ⟨b, off, rfl, hcell⟩ := h.cell k hk
    have hs := fun w => rspace_any (chA l k) w (chA_ch h.pre k)
    have q : spaceB (chA l k) = spB l k := rfl
    have hlt : (k : Int) < (n : Int) := by omega
    clear h hk
    rw [q] at hs
    clear q
    generalize chA l k = v at *
    generalize spB l k = r at *
    go_enter Tryz.func73, Tryz.ntmps73
    go_wp2_with (go_at_call 72; refine (hs _).mono ?_; rintro e w1 ⟨rfl, rfl⟩)
    go_ret
    exact ⟨rfl, rfl⟩
  · have q : spB l k = false := by
      rcases hq : spB l k with _ | _
      · rfl
      · exact absurd (lt_of_spB hq) (by rw [h.len]; exact hk)
    rw [q]
    have hlt : ¬ (k : Int) < (n : Int) := by omega
    clear h hk q
    go_enter Tryz.func73, Tryz.ntmps73
    go_wp2
    go_ret
    exact ⟨rfl, rfl⟩
set_option maxRecDepth 100000 in
set_option maxHeartbeats 1000000 in
theorem rdigitAt {a : Option Addr} {n cap : Nat} {l : List Int} {w : World} (i : Int) (k : Nat) (h : Src w a n cap l) (hi : i = (k : Int)) :
    Calls Tryz.prog 107 #[.slice a n cap, .int .i64 i] w (Tells (.bool (dgB l k)) w) := by
  subst hi
  obtain ⟨hcap1, hcap2⟩ := h.cap
  by_cases hk : k < n
  · obtain ⟨b, off, rfl, hcell⟩ := h.cell k hk
    have hs := fun w => rdigit_any (chA l k) w (chA_ch h.pre k)
    have q : digitB (chA l k) = dgB l k := rfl
    have hlt : (k : Int) < (n : Int) := by omega
    clear h hk
    rw [q] at hs
    clear q
    generalize chA l k = v at *
    generalize dgB l k = r at *
    go_enter Tryz.func107, Tryz.ntmps107
    go_wp2_with (go_at_call 122; refine (hs _).mono ?_; rintro e w1 ⟨rfl, rfl⟩)
    go_ret
    exact ⟨rfl, rfl⟩
  · have q : dgB l k = false := by
      rcases hq : dgB l k with _ | _
      · rfl
      · exact absurd (lt_of_dgB hq) (by rw [h.len]; exact hk)
    rw [q]
    have hlt : ¬ (k : Int) < (n : Int) := by omega
    clear h hk q
    go_enter Tryz.func107, Tryz.ntmps107
    go_wp2
    go_ret
    exact ⟨rfl, rfl⟩
set_option maxRecDepth 100000 in
set_option maxHeartbeats 1000000 in
theorem rstartAt {a : Option Addr} {n cap : Nat} {l : List Int} {w : World} (i : Int) (k : Nat) (h : Src w a n cap l) (hi : i = (k : Int)) :
    Calls Tryz.prog 109 #[.slice a n cap, .int .i64 i] w (Tells (.bool (stB l k)) w) := by
  subst hi
  obtain ⟨hcap1, hcap2⟩ := h.cap
  by_cases hk : k < n
  · obtain ⟨b, off, rfl, hcell⟩ := h.cell k hk
    have hs := fun w => rstart_any (chA l k) w (chA_ch h.pre k)
    have q : startB (chA l k) = stB l k := rfl
    have hlt : (k : Int) < (n : Int) := by omega
    clear h hk
    rw [q] at hs
    clear q
    generalize chA l k = v at *
    generalize stB l k = r at *
    go_enter Tryz.func109, Tryz.ntmps109
    go_wp2_with (go_at_call 123; refine (hs _).mono ?_; rintro e w1 ⟨rfl, rfl⟩)
    go_ret
    exact ⟨rfl, rfl⟩
  · have q : stB l k = false := by
      rcases hq : stB l k with _ | _
      · rfl
      · exact absurd (lt_of_stB hq) (by rw [h.len]; exact hk)
    rw [q]
    have hlt : ¬ (k : Int) < (n : Int) := by omega
    clear h hk q
    go_enter Tryz.func109, Tryz.ntmps109
    go_wp2
    go_ret
    exact ⟨rfl, rfl⟩
set_option maxRecDepth 100000 in
set_option maxHeartbeats 1000000 in
theorem rinnerAt {a : Option Addr} {n cap : Nat} {l : List Int} {w : World} (i : Int) (k : Nat) (h : Src w a n cap l) (hi : i = (k : Int)) :
    Calls Tryz.prog 81 #[.slice a n cap, .int .i64 i] w (Tells (.bool (nmB l k)) w) := by
  subst hi
  obtain ⟨hcap1, hcap2⟩ := h.cap
  by_cases hk : k < n
  · obtain ⟨b, off, rfl, hcell⟩ := h.cell k hk
    have hs := fun w => rname_any (chA l k) w (chA_ch h.pre k)
    have q : nameB (chA l k) = nmB l k := rfl
    have hlt : (k : Int) < (n : Int) := by omega
    clear h hk
    rw [q] at hs
    clear q
    generalize chA l k = v at *
    generalize nmB l k = r at *
    go_enter Tryz.func81, Tryz.ntmps81
    go_wp2_with (go_at_call 112; refine (hs _).mono ?_; rintro e w1 ⟨rfl, rfl⟩)
    go_ret
    exact ⟨rfl, rfl⟩
  · have q : nmB l k = false := by
      rcases hq : nmB l k with _ | _
      · rfl
      · exact absurd (lt_of_nmB hq) (by rw [h.len]; exact hk)
    rw [q]
    have hlt : ¬ (k : Int) < (n : Int) := by omega
    clear h hk q
    go_enter Tryz.func81, Tryz.ntmps81
    go_wp2
    go_ret
    exact ⟨rfl, rfl⟩
end

section
open Go.RowKit
set_option maxRecDepth 100000 in
set_option maxHeartbeats 1000000 in
theorem resc_any {a : Option Addr} {n cap : Nat} {l : List Int} {w : World} (i : Int) (k : Nat) (h : Src w a n cap l) (hi : i = (k : Int)) (hk : k ≤ 2000000) :
    Calls Tryz.prog 82 #[.slice a n cap, .int .i64 i] w (Tells (.bool (escB l k)) w) := by
  subst hi
  have f0 := ris_any (k : Int) k 92 h rfl (by decide)
  have f1 := ris_any ((k : Int) + 1) (k + 1) 10 h (by omega) (by decide)
  clear h
  unfold escB
  generalize isB l k 92 = r0 at *
  generalize isB l (k + 1) 10 = r1 at *
  cases r0 <;> cases r1
  all_goals
    go_enter Tryz.func82, Tryz.ntmps82
    go_wp2_with ((first | (go_at_call 77; with_reducible refine f0.mono ?_) | (go_at_call 77; with_reducible refine f1.mono ?_)); rintro e w1 ⟨rfl, rfl⟩)
    go_ret
    exact ⟨rfl, rfl⟩
set_option maxRecDepth 100000 in
set_option maxHeartbeats 1000000 in
theorem rnameAt_any {a : Option Addr} {n cap : Nat} {l : List Int} {w : World} (i : Int) (k : Nat) (h : Src w a n cap l) (hi : i = (k : Int)) (hk : k ≤ 1000000) :
    Calls Tryz.prog 78 #[.slice a n cap, .int .i64 i] w (Tells (.bool (nameAt l k)) w) := by
  subst hi
  have f0 := ris_any (k : Int) k 45 h rfl (by decide)
  have f1 := ris_any ((k : Int) + 1) (k + 1) 45 h (by omega) (by decide)
  have f2 := rstartAt ((k : Int) + 1) (k + 1) h (by omega)
  have f3 := rstartAt (k : Int) k h rfl
  have f4 := resc_any ((k : Int) + 1) (k + 1) h (by omega) (by omega)
  have f5 := resc_any (k : Int) k h rfl (by omega)
  clear h
  unfold nameAt
  generalize isB l k 45 = r0 at *
  generalize isB l (k + 1) 45 = r1 at *
  generalize stB l (k + 1) = r2 at *
  generalize stB l k = r3 at *
  generalize escB l (k + 1) = r4 at *
  generalize escB l k = r5 at *
  cases r0
  · cases r3 <;> cases r5
    all_goals rw [if_neg (by decide)]
    all_goals
      go_enter Tryz.func78, Tryz.ntmps78
      go_wp2_with ((first | (go_at_call 77; with_reducible refine f0.mono ?_) | (go_at_call 77; with_reducible refine f1.mono ?_) | (go_at_call 109; with_reducible refine f2.mono ?_) | (go_at_call 109; with_reducible refine f3.mono ?_) | (go_at_call 82; with_reducible refine f4.mono ?_) | (go_at_call 82; with_reducible refine f5.mono ?_)); rintro e w1 ⟨rfl, rfl⟩)
      go_ret
      exact ⟨rfl, rfl⟩
  · cases r1 <;> cases r2 <;> cases r4
    all_goals rw [if_pos rfl]
    all_goals
      go_enter Tryz.func78, Tryz.ntmps78
      go_wp2_with ((first | (go_at_call 77; with_reducible refine f0.mono ?_) | (go_at_call 77; with_reducible refine f1.mono ?_) | (go_at_call 109; with_reducible refine f2.mono ?_) | (go_at_call 109; with_reducible refine f3.mono ?_) | (go_at_call 82; with_reducible refine f4.mono ?_) | (go_at_call 82; with_reducible refine f5.mono ?_)); rintro e w1 ⟨rfl, rfl⟩)
      go_ret
      exact ⟨rfl, rfl⟩
set_option maxRecDepth 100000 in
set_option maxHeartbeats 1000000 in
theorem rsign_any {a : Option Addr} {n cap : Nat} {l : List Int} {w : World} (i : Int) (k : Nat) (h : Src w a n cap l) (hi : i = (k : Int)) (hk : k ≤ 1000000) (hp : isB l k 43 = true ∨ (isB l k 43 = false ∧ isB l k 45 = true)) :
    Calls Tryz.prog 75 #[.slice a n cap, .int .i64 i] w (Tells (.bool (numAt l k)) w) := by
  subst hi
  have es : signAt l k = k + 1 := by unfold signAt; rcases hp with hp | ⟨_, hp⟩ <;> simp [hp]
  unfold numAt fracAt
  rw [es]
  have f0 := ris_any (k : Int) k 43 h rfl (by decide)
  have f1 := ris_any (k : Int) k 45 h rfl (by decide)
  have f2 := rdigitAt ((k : Int) + 1) (k + 1) h (by omega)
  have f3 := ris_any ((k : Int) + 1) (k + 1) 46 h (by omega) (by decide)
  have f4 := rdigitAt ((k : Int) + 1 + 1) (k + 1 + 1) h (by omega)
  clear h es
  generalize isB l k 43 = r0 at *
  generalize isB l k 45 = r1 at *
  generalize dgB l (k + 1) = r2 at *
  generalize isB l (k + 1) 46 = r3 at *
  generalize dgB l (k + 1 + 1) = r4 at *
  rcases hp with rfl | ⟨rfl, rfl⟩
  all_goals cases r2 <;> cases r3 <;> cases r4
  all_goals
    go_enter Tryz.func75, Tryz.ntmps75
    go_wp2_with ((first | (go_at_call 77; with_reducible refine f0.mono ?_) | (go_at_call 77; with_reducible refine f1.mono ?_) | (go_at_call 107; with_reducible refine f2.mono ?_) | (go_at_call 77; with_reducible refine f3.mono ?_) | (go_at_call 107; with_reducible refine f4.mono ?_)); rintro e w1 ⟨rfl, rfl⟩)
    go_ret
    exact ⟨rfl, rfl⟩
set_option maxRecDepth 100000 in
set_option maxHeartbeats 1000000 in
theorem rnumAt_any {a : Option Addr} {n cap : Nat} {l : List Int} {w : World} (i : Int) (k : Nat) (h : Src w a n cap l) (hi : i = (k : Int)) (hk : k ≤ 1000000) :
    Calls Tryz.prog 75 #[.slice a n cap, .int .i64 i] w (Tells (.bool (numAt l k)) w) := by
  rcases h1 : isB l k 43 with _ | _
  · rcases h2 : isB l k 45 with _ | _
    · subst hi
      have es : signAt l k = k := by unfold signAt; simp [h1, h2]
      unfold numAt fracAt
      rw [es]
      have f0 := ris_any (k : Int) k 43 h rfl (by decide)
      have f1 := ris_any (k : Int) k 45 h rfl (by decide)
      have f2 := rdigitAt (k : Int) k h rfl
      have f3 := ris_any (k : Int) k 46 h rfl (by decide)
      have f4 := rdigitAt ((k : Int) + 1) (k + 1) h (by omega)
      rw [h1] at f0
      rw [h2] at f1
      clear h es h1 h2
      generalize dgB l k = r2 at *
      generalize isB l k 46 = r3 at *
      generalize dgB l (k + 1) = r4 at *
      cases r2 <;> cases r3 <;> cases r4
      all_goals
        go_enter Tryz.func75, Tryz.ntmps75
        go_wp2_with ((first | (go_at_call 77; with_reducible refine f0.mono ?_) | (go_at_call 77; with_reducible refine f1.mono ?_) | (go_at_call 107; with_reducible refine f2.mono ?_) | (go_at_call 77; with_reducible refine f3.mono ?_) | (go_at_call 107; with_reducible refine f4.mono ?_)); rintro e w1 ⟨rfl, rfl⟩)
        go_ret
        exact ⟨rfl, rfl⟩
    · exact rsign_any i k h hi hk (.inr ⟨h1, h2⟩)
  · exact rsign_any i k h hi hk (.inl h1)
end
end Go.Proofs.YtcfhggdiccilaaaGreat
