/- Tokens by the document, as a plain function on characters (each at least 1: a 0 is no character, the end). -/
import Derived.Test.YtdopmkiogmejaaaDoorName
import Derived.Test.YtdopmkiogmejaaaDoorPrep
namespace Go.Proofs.YtdopmkiogmejaaaDoor
open Go.RowKit

/-- The character at a place; 0: there is none. -/
def chA (l : List Int) (j : Nat) : Int := l[j]?.getD 0
/-- Characters that were prepared: none is 0. -/
def Pre (l : List Int) : Prop := ∀ c ∈ l, 1 ≤ c ∧ c < 1114112
theorem chA_end (l : List Int) (j : Nat) (h : l.length ≤ j) : chA l j = 0 := by unfold chA; rw [List.getElem?_eq_none h]; rfl
theorem chA_lt {l : List Int} (hl : Pre l) {j : Nat} (h : j < l.length) : 1 ≤ chA l j ∧ chA l j < 1114112 := by
  unfold chA; rw [List.getElem?_eq_getElem h]; exact hl _ (List.getElem_mem h)
theorem chA_ch {l : List Int} (hl : Pre l) (j : Nat) : Ch (chA l j) := by
  rcases Nat.lt_or_ge j l.length with h | h
  · have := chA_lt hl h; unfold Ch; omega
  · rw [chA_end l j h]; unfold Ch; omega
theorem lt_of_chA {l : List Int} {j : Nat} (h : chA l j ≠ 0) : j < l.length := by
  rcases Nat.lt_or_ge j l.length with h' | h'
  · exact h'
  · exact absurd (chA_end l j h') h

/-- Tests at a place. -/
def isB (l : List Int) (j : Nat) (c : Int) : Bool := decide (chA l j = c)
def spB (l : List Int) (j : Nat) : Bool := spaceB (chA l j)
def dgB (l : List Int) (j : Nat) : Bool := digitB (chA l j)
def stB (l : List Int) (j : Nat) : Bool := startB (chA l j)
def nmB (l : List Int) (j : Nat) : Bool := nameB (chA l j)
def escB (l : List Int) (j : Nat) : Bool := isB l j 92 && !isB l (j + 1) 10
def hxB (l : List Int) (j : Nat) : Bool := decide (0 ≤ hexV (chA l j))
theorem isB_iff {l : List Int} {j : Nat} {c : Int} : isB l j c = true ↔ chA l j = c := by unfold isB; exact decide_eq_true_iff
theorem lt_of_isB {l : List Int} {j : Nat} {c : Int} (h : isB l j c = true) (hc : c ≠ 0) : j < l.length := lt_of_chA (by rw [isB_iff.1 h]; exact hc)
theorem lt_of_spB {l : List Int} {j : Nat} (h : spB l j = true) : j < l.length := lt_of_chA fun h0 => by unfold spB at h; rw [h0] at h; exact absurd h (by decide)
theorem lt_of_dgB {l : List Int} {j : Nat} (h : dgB l j = true) : j < l.length := lt_of_chA fun h0 => by unfold dgB at h; rw [h0] at h; exact absurd h (by decide)
theorem lt_of_stB {l : List Int} {j : Nat} (h : stB l j = true) : j < l.length := lt_of_chA fun h0 => by unfold stB at h; rw [h0] at h; exact absurd h (by decide)
theorem lt_of_nmB {l : List Int} {j : Nat} (h : nmB l j = true) : j < l.length := lt_of_chA fun h0 => by unfold nmB at h; rw [h0] at h; exact absurd h (by decide)
theorem lt_of_hxB {l : List Int} {j : Nat} (h : hxB l j = true) : j < l.length := lt_of_chA fun h0 => by unfold hxB at h; rw [h0] at h; exact absurd h (by decide)
theorem lt_of_escB {l : List Int} {j : Nat} (h : escB l j = true) : j < l.length := lt_of_isB (by unfold escB at h; rw [Bool.and_eq_true] at h; exact h.1) (by decide)

/-- Up to so many digits of base 16, from a place on. -/
def hexGo : Nat → List Int → Nat → Int → Int × Nat
  | 0, _, i, n => (n, i)
  | f + 1, l, i, n => if hxB l i then hexGo f l (i + 1) (16 * n + hexV (chA l i)) else (n, i)
/-- A character as texts have it. -/
def cleanF (c : Int) : Int := if c = 0 then 65533 else charOf c
/-- What an escape stands for, and the place behind it. -/
def valueF (l : List Int) (j : Nat) : Int × Nat :=
  if l.length ≤ j + 1 then (65533, j + 1)
  else if (hexGo 6 l (j + 1) 0).2 = j + 1 then (chA l (j + 1), j + 2)
  else (cleanF (hexGo 6 l (j + 1) 0).1, if spB l (hexGo 6 l (j + 1) 0).2 then (hexGo 6 l (j + 1) 0).2 + 1 else (hexGo 6 l (j + 1) 0).2)
def nameAt (l : List Int) (j : Nat) : Bool := if isB l j 45 then isB l (j + 1) 45 || stB l (j + 1) || escB l (j + 1) else stB l j || escB l j
def signAt (l : List Int) (j : Nat) : Nat := if isB l j 43 || isB l j 45 then j + 1 else j
def fracAt (l : List Int) (j : Nat) : Bool := isB l j 46 && dgB l (j + 1)
def numAt (l : List Int) (j : Nat) : Bool := dgB l (signAt l j) || fracAt l (signAt l j)
/-- A name's characters from a place on, and the place behind them. -/
def namesGo : Nat → List Int → Nat → List Int → List Int × Nat
  | 0, _, j, out => (out, j)
  | f + 1, l, j, out => if nmB l j then namesGo f l (j + 1) (out ++ [chA l j]) else if escB l j then namesGo f l (valueF l j).2 (out ++ [(valueF l j).1]) else (out, j)
def namesF (l : List Int) (j : Nat) : List Int × Nat := namesGo (l.length + 1) l j []
def digitsGo : Nat → List Int → Nat → Nat
  | 0, _, j => j
  | f + 1, l, j => if dgB l j then digitsGo f l (j + 1) else j
def digitsF (l : List Int) (j : Nat) : Nat := digitsGo (l.length + 1) l j
def spacesGo : Nat → List Int → Nat → Nat
  | 0, _, j => j
  | f + 1, l, j => if spB l j then spacesGo f l (j + 1) else j
def spacesF (l : List Int) (j : Nat) : Nat := spacesGo (l.length + 1) l j
def expoB (l : List Int) (j : Nat) : Bool := (isB l j 101 || isB l j 69) && dgB l (signAt l (j + 1))
def expoF (l : List Int) (j : Nat) : Nat := if expoB l j then digitsF l (signAt l (j + 1)) else j
def fracF (l : List Int) (j : Nat) : Nat := if fracAt l j then digitsF l (j + 1) else j
/-- The place behind a number's characters, and whether it is whole. -/
def numberF (l : List Int) (j : Nat) : Nat × Bool :=
  (expoF l (fracF l (digitsF l (signAt l j))), !fracAt l (digitsF l (signAt l j)) && !expoB l (fracF l (digitsF l (signAt l j))))

/-- A token. -/
structure Tk where
  kind : Int
  frm : Nat
  to : Nat
  text : List Int
  num : List Int
  whole : Bool
deriving DecidableEq
/-- Characters as a text's bytes. -/
def bytesF (l : List Int) : List Int := textF (l.map cleanF)
def sliceF (l : List Int) (i j : Nat) : List Int := (l.drop i).take (j - i)

def numericF (l : List Int) (j : Nat) : Tk :=
  if nameAt l (numberF l j).1 then ⟨12, j, (namesF l (numberF l j).1).2, bytesF (namesF l (numberF l j).1).1, bytesF (sliceF l j (numberF l j).1), (numberF l j).2⟩
  else if isB l (numberF l j).1 37 then ⟨11, j, (numberF l j).1 + 1, [], bytesF (sliceF l j (numberF l j).1), (numberF l j).2⟩
  else ⟨10, j, (numberF l j).1, [], bytesF (sliceF l j (numberF l j).1), (numberF l j).2⟩

def quotedGo : Nat → List Int → Int → Nat → Nat → List Int → Tk
  | 0, _, _, frm, i, out => ⟨5, frm, i, bytesF out, [], false⟩
  | f + 1, l, mark, frm, i, out =>
    if l.length ≤ i then ⟨5, frm, i, bytesF out, [], false⟩
    else if isB l i mark then ⟨5, frm, i + 1, bytesF out, [], false⟩
    else if isB l i 10 then ⟨6, frm, i, [], [], false⟩
    else if !isB l i 92 then quotedGo f l mark frm (i + 1) (out ++ [chA l i])
    else if l.length ≤ i + 1 then quotedGo f l mark frm (i + 1) out
    else if isB l (i + 1) 10 then quotedGo f l mark frm (i + 2) out
    else quotedGo f l mark frm (valueF l i).2 (out ++ [(valueF l i).1])
def quotedF (l : List Int) (j : Nat) : Tk := quotedGo (l.length + 1) l (chA l j) j (j + 1) []

def hiddenB (c : Int) : Bool := decide (c ≤ 8 ∨ c = 11 ∨ (14 ≤ c ∧ c ≤ 31) ∨ c = 127)
def restGo : Nat → List Int → Nat → Nat → Tk
  | 0, l, frm, _ => ⟨8, frm, l.length, [], [], false⟩
  | f + 1, l, frm, i => if l.length ≤ i then ⟨8, frm, l.length, [], [], false⟩ else if isB l i 41 then ⟨8, frm, i + 1, [], [], false⟩ else if escB l i then restGo f l frm (valueF l i).2 else restGo f l frm (i + 1)
def restF (l : List Int) (frm i : Nat) : Tk := restGo (l.length + 1) l frm i
/-- Is a character one that a url may not have as it is? -/
def urlBad (l : List Int) (i : Nat) : Bool := isB l i 34 || isB l i 39 || isB l i 40 || hiddenB (chA l i) || (isB l i 92 && !escB l i)
def urlGo : Nat → List Int → Nat → Nat → List Int → Tk
  | 0, l, frm, _, out => ⟨7, frm, l.length, bytesF out, [], false⟩
  | f + 1, l, frm, i, out =>
    if l.length ≤ spacesF l i then ⟨7, frm, l.length, bytesF out, [], false⟩
    else if isB l (spacesF l i) 41 then ⟨7, frm, spacesF l i + 1, bytesF out, [], false⟩
    else if i < spacesF l i then restF l frm (spacesF l i)
    else if urlBad l i then restF l frm i
    else if isB l i 92 then urlGo f l frm (valueF l i).2 (out ++ [(valueF l i).1])
    else urlGo f l frm (i + 1) (out ++ [chA l i])
def urlF (l : List Int) (frm i : Nat) : Tk := urlGo (l.length + 1) l frm i []

/-- Are bytes a url's name, but for great and small letters? -/
def urlName (bs : List Int) : Bool := decide (bs.map smallF = [117, 114, 108])
def calledF (l : List Int) (j : Nat) : Tk :=
  if !isB l (namesF l j).2 40 then ⟨1, j, (namesF l j).2, bytesF (namesF l j).1, [], false⟩
  else if urlName (bytesF (namesF l j).1) && !isB l (spacesF l ((namesF l j).2 + 1)) 34 && !isB l (spacesF l ((namesF l j).2 + 1)) 39 then urlF l j (spacesF l ((namesF l j).2 + 1))
  else ⟨2, j, (namesF l j).2 + 1, bytesF (namesF l j).1, [], false⟩

def skipGo : Nat → List Int → Nat → Nat
  | 0, l, i => min (i + 2) l.length
  | f + 1, l, i => if l.length ≤ i then min (i + 2) l.length else if isB l i 42 && isB l (i + 1) 47 then min (i + 2) l.length else skipGo f l (i + 1)
def openB (l : List Int) (j : Nat) : Bool := isB l j 47 && isB l (j + 1) 42
def behindGo : Nat → List Int → Nat → Nat
  | 0, _, j => j
  | f + 1, l, j => if openB l j then behindGo f l (skipGo (l.length + 1) l (j + 2)) else j
def behindF (l : List Int) (j : Nat) : Nat := behindGo (l.length + 1) l j
/-- The kind of a sign of its own; 9: it is none. -/
def signKind (c : Int) : Int :=
  if c = 40 then 21 else if c = 41 then 22 else if c = 91 then 19 else if c = 93 then 20 else if c = 123 then 23 else if c = 125 then 24 else if c = 44 then 18 else if c = 58 then 16 else if c = 59 then 17 else 9
def cdcB (l : List Int) (i : Nat) : Bool := isB l i 45 && isB l (i + 1) 45 && isB l (i + 2) 62
def cdoB (l : List Int) (i : Nat) : Bool := isB l i 60 && isB l (i + 1) 33 && isB l (i + 2) 45 && isB l (i + 3) 45
def atSgB (l : List Int) (i : Nat) : Bool := isB l i 64 && nameAt l (i + 1)
def hashB (l : List Int) (i : Nat) : Bool := isB l i 35 && (nmB l (i + 1) || escB l (i + 1))
def tokAt (l : List Int) (i : Nat) : Tk :=
  if l.length ≤ i then ⟨0, l.length, l.length, [], [], false⟩
  else if spB l i then ⟨13, i, spacesF l i, [], [], false⟩
  else if isB l i 34 || isB l i 39 then quotedF l i
  else if numAt l i then numericF l i
  else if cdcB l i then ⟨15, i, i + 3, [], [], false⟩
  else if nameAt l i then calledF l i
  else if cdoB l i then ⟨14, i, i + 4, [], [], false⟩
  else if atSgB l i then ⟨3, i, (namesF l (i + 1)).2, bytesF (namesF l (i + 1)).1, [], false⟩
  else if hashB l i then ⟨4, i, (namesF l (i + 1)).2, bytesF (namesF l (i + 1)).1, [], nameAt l (i + 1)⟩
  else if signKind (chA l i) = 9 then ⟨9, i, i + 1, bytesF [chA l i], [], false⟩
  else ⟨signKind (chA l i), i, i + 1, [], [], false⟩
def nextF (l : List Int) (j : Nat) : Tk := tokAt l (behindF l j)
def allGo : Nat → List Int → Nat → List Tk → List Tk
  | 0, _, _, out => out
  | f + 1, l, j, out => if (nextF l j).kind = 0 then out ++ [nextF l j] else allGo f l (nextF l j).to (out ++ [nextF l j])
def allF (l : List Int) : List Tk := allGo (l.length + 1) l 0 []
def toksF (zs : List Int) : List Tk := allF (prepF (charsF zs))

example : toksF [97, 92, 50, 54, 32, 98] = [⟨1, 0, 6, [97, 38, 98], [], false⟩, ⟨0, 6, 6, [], [], false⟩] := by decide +kernel
example : toksF [49, 46, 53, 101, 51, 112, 120] = [⟨12, 0, 7, [112, 120], [49, 46, 53, 101, 51], false⟩, ⟨0, 7, 7, [], [], false⟩] := by decide +kernel
example : toksF [50, 110, 32, 43, 32, 49] = [⟨12, 0, 2, [110], [50], true⟩, ⟨13, 2, 3, [], [], false⟩, ⟨9, 3, 4, [43], [], false⟩, ⟨13, 4, 5, [], [], false⟩, ⟨10, 5, 6, [], [49], true⟩, ⟨0, 6, 6, [], [], false⟩] := by decide +kernel
end Go.Proofs.YtdopmkiogmejaaaDoor
