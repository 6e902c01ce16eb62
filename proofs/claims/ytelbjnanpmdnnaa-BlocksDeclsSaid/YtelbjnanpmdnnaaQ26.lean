/- Texts of mine in one: Ba1 Bb0 Bb1. -/
import Derived.Test.YtelbjnanpmdnnaaQ14
import Derived.Test.YtelbjnanpmdnnaaQ15
import Derived.Test.YtelbjnanpmdnnaaQ25
import Derived.Test.YtelbjnanpmdnnaaQ03
namespace Go.Proofs.Ytelbjnanpmdnnaa
section
def txA (ts : List Tk) (j : Nat) : ByteArray := (ts[j]?.map (fun t => strOfNums t.text)).getD ⟨#[]⟩
theorem txA_at {ts : List Tk} {j : Nat} (h : j < ts.length) : txA ts j = strOfNums (ts[j]'h).text := by unfold txA; rw [List.getElem?_eq_getElem h]; rfl
structure Rl where
  at_ : Bool
  name : ByteArray
  frm : Nat
  to : Nat
  has : Bool
  opn : Nat
  fin : Nat
def rlCells (r : Rl) : List Go.Value := [.bool r.at_, .string r.name, .int .i64 r.frm, .int .i64 r.to, .bool r.has, .int .i64 r.opn, .int .i64 r.fin]
def isK (a : Int) : Int → Bool := fun k => decide (k = a)
def isK2 (a b : Int) : Int → Bool := fun k => decide (k = a) || decide (k = b)
theorem isK_iff {a k : Int} : isK a k = true ↔ k = a := decide_eq_true_iff
theorem isK2_iff {a b k : Int} : isK2 a b k = true ↔ k = a ∨ k = b := by unfold isK2; rw [Bool.or_eq_true, decide_eq_true_iff, decide_eq_true_iff]
def blkF (ts : List Tk) (E k : Nat) : Nat × Nat := (scanF ts (isK 24) E (k + 1), min E (scanF ts (isK 24) E (k + 1) + 1))
def atruleF (ts : List Tk) (E j : Nat) : Rl × Nat :=
  if scanF ts (isK2 17 23) E (j + 1) < E then
    if kdA ts (scanF ts (isK2 17 23) E (j + 1)) = 23 then
      (⟨true, lowS (txA ts j), j + 1, scanF ts (isK2 17 23) E (j + 1), true, scanF ts (isK2 17 23) E (j + 1) + 1, (blkF ts E (scanF ts (isK2 17 23) E (j + 1))).1⟩, (blkF ts E (scanF ts (isK2 17 23) E (j + 1))).2)
    else (⟨true, lowS (txA ts j), j + 1, scanF ts (isK2 17 23) E (j + 1), false, 0, 0⟩, scanF ts (isK2 17 23) E (j + 1) + 1)
  else (⟨true, lowS (txA ts j), j + 1, scanF ts (isK2 17 23) E (j + 1), false, 0, 0⟩, scanF ts (isK2 17 23) E (j + 1))
def qualF (ts : List Tk) (E j : Nat) : Rl × Nat :=
  (⟨false, ⟨#[]⟩, j, scanF ts (isK 23) E j, true, scanF ts (isK 23) E j + 1, (blkF ts E (scanF ts (isK 23) E j)).1⟩, (blkF ts E (scanF ts (isK 23) E j)).2)
def gapB (top : Bool) (k : Int) : Bool := decide (k = 13) || (top && (decide (k = 14) || decide (k = 15)))
def rulesGo (ts : List Tk) (E : Nat) (top : Bool) : Nat → Nat → List Rl
  | 0, _ => []
  | f + 1, j => if j < E then
      if gapB top (kdA ts j) = true then rulesGo ts E top f (j + 1)
      else if kdA ts j = 3 then (atruleF ts E j).1 :: rulesGo ts E top f (atruleF ts E j).2
      else if scanF ts (isK 23) E j < E then (qualF ts E j).1 :: rulesGo ts E top f (qualF ts E j).2
      else []
    else []
def rulesF (ts : List Tk) (E : Nat) (top : Bool) (j : Nat) : List Rl := rulesGo ts E top (E - j) j
theorem blkF_bounds (ts : List Tk) (E k : Nat) (h : k < E) : k + 1 ≤ (blkF ts E k).1 ∧ (blkF ts E k).1 ≤ E ∧ k < (blkF ts E k).2 ∧ (blkF ts E k).2 ≤ E ∧ (blkF ts E k).1 ≤ (blkF ts E k).2 := by
  have := scanF_bounds ts (isK 24) E (k + 1) h
  unfold blkF
  dsimp only
  omega
theorem atruleF_bounds (ts : List Tk) (E j : Nat) (h : j < E) : j < (atruleF ts E j).2 ∧ (atruleF ts E j).2 ≤ E := by
  have h1 := scanF_bounds ts (isK2 17 23) E (j + 1) h
  unfold atruleF
  split
  · rename_i h2
    have h3 := blkF_bounds ts E _ h2
    split
    · dsimp only; omega
    · dsimp only; omega
  · dsimp only; omega
theorem qualF_bounds (ts : List Tk) (E j : Nat) (h : scanF ts (isK 23) E j < E) (hj : j ≤ E) : j < (qualF ts E j).2 ∧ (qualF ts E j).2 ≤ E := by
  have h1 := scanF_bounds ts (isK 23) E j hj
  have h3 := blkF_bounds ts E _ h
  unfold qualF
  dsimp only; omega
theorem rulesGo_end (ts : List Tk) (E : Nat) (top : Bool) (f j : Nat) (h : E ≤ j) : rulesGo ts E top f j = [] := by
  cases f with
  | zero => rfl
  | succ f => show (if _ then _ else _) = _; rw [if_neg (by omega)]
theorem rulesGo_fuel (ts : List Tk) (E : Nat) (top : Bool) : ∀ (n j f f' : Nat), E - j ≤ n → E - j ≤ f → E - j ≤ f' → rulesGo ts E top f j = rulesGo ts E top f' j := by
  intro n
  induction n with
  | zero => intro j f f' h _ _; rw [rulesGo_end _ _ _ _ _ (by omega), rulesGo_end _ _ _ _ _ (by omega)]
  | succ n ih =>
    intro j f f' h h1 h2
    rcases Nat.lt_or_ge j E with hj | hj
    · obtain ⟨f, rfl⟩ : ∃ m, f = m + 1 := ⟨f - 1, by omega⟩
      obtain ⟨f', rfl⟩ : ∃ m, f' = m + 1 := ⟨f' - 1, by omega⟩
      have ha := atruleF_bounds ts E j hj
      show (if _ then _ else _) = (if _ then _ else _)
      rw [if_pos hj, if_pos hj]
      split
      · exact ih _ f f' (by omega) (by omega) (by omega)
      · split
        · rw [ih _ f f' (by omega) (by omega) (by omega)]
        · split
          · rename_i hq
            have hb := qualF_bounds ts E j hq (by omega)
            rw [ih _ f f' (by omega) (by omega) (by omega)]
          · rfl
    · rw [rulesGo_end _ _ _ _ _ hj, rulesGo_end _ _ _ _ _ hj]
theorem rulesF_step (ts : List Tk) (E : Nat) (top : Bool) (j : Nat) : rulesF ts E top j =
    if j < E then
      if gapB top (kdA ts j) = true then rulesF ts E top (j + 1)
      else if kdA ts j = 3 then (atruleF ts E j).1 :: rulesF ts E top (atruleF ts E j).2
      else if scanF ts (isK 23) E j < E then (qualF ts E j).1 :: rulesF ts E top (qualF ts E j).2
      else []
    else [] := by
  unfold rulesF
  rcases Nat.lt_or_ge j E with hj | hj
  · have ha := atruleF_bounds ts E j hj
    rw [rulesGo_fuel ts E top _ j _ (E - j - 1 + 1) (Nat.le_refl _) (Nat.le_refl _) (by omega)]
    show (if _ then _ else _) = _
    rw [if_pos hj, if_pos hj]
    split
    · exact rulesGo_fuel ts E top _ _ _ _ (Nat.le_refl _) (by omega) (Nat.le_refl _)
    · split
      · rw [rulesGo_fuel ts E top _ _ _ _ (Nat.le_refl _) (by omega) (Nat.le_refl _)]
      · split
        · rename_i hq
          have hb := qualF_bounds ts E j hq (by omega)
          rw [rulesGo_fuel ts E top _ _ _ _ (Nat.le_refl _) (by omega) (Nat.le_refl _)]
        · rfl
  · rw [rulesGo_end _ _ _ _ _ hj, if_neg (by omega)]
def overGo (ts : List Tk) (p : Int → Bool) (E : Nat) : Nat → Nat → Nat
  | 0, j => j
  | f + 1, j => if j < E ∧ p (kdA ts j) = true then overGo ts p E f (j + 1) else j
def overF (ts : List Tk) (p : Int → Bool) (E j : Nat) : Nat := overGo ts p E (E - j) j
theorem overF_step (ts : List Tk) (p : Int → Bool) (E j : Nat) : overF ts p E j = if j < E ∧ p (kdA ts j) = true then overF ts p E (j + 1) else j := by
  rcases Nat.lt_or_ge j E with hj | hj
  · have h2 : overF ts p E j = overGo ts p E (E - (j + 1) + 1) j := by unfold overF; rw [show E - (j + 1) + 1 = E - j by omega]
    rw [h2]; rfl
  · unfold overF; rw [show E - j = 0 by omega, if_neg (by omega)]; rfl
theorem overF_bounds (ts : List Tk) (p : Int → Bool) (E : Nat) : ∀ (n j : Nat), E - j ≤ n → j ≤ overF ts p E j ∧ overF ts p E j ≤ max j E ∧ (overF ts p E j < E → p (kdA ts (overF ts p E j)) = false) := by
  intro n
  induction n with
  | zero => intro j h; rw [overF_step, if_neg (by omega)]; exact ⟨Nat.le_refl _, by omega, fun h1 => by omega⟩
  | succ n ih =>
    intro j h
    rw [overF_step]
    split
    · obtain ⟨h1, h2, h3⟩ := ih (j + 1) (by omega)
      exact ⟨by omega, by omega, h3⟩
    · rename_i hh
      refine ⟨Nat.le_refl _, by omega, fun h1 => ?_⟩
      cases hp : p (kdA ts j) with
      | false => rfl
      | true => exact absurd ⟨h1, hp⟩ hh
def backF (ts : List Tk) (a : Nat) : Nat → Nat
  | 0 => 0
  | b + 1 => if a < b + 1 ∧ kdA ts b = 13 then backF ts a b else b + 1
theorem backF_bounds (ts : List Tk) (a : Nat) : ∀ (b : Nat), a ≤ b → a ≤ backF ts a b ∧ backF ts a b ≤ b
  | 0, h => ⟨h, Nat.le_refl _⟩
  | b + 1, h => by
    show a ≤ (if _ then _ else _) ∧ (if _ then _ else _) ≤ b + 1
    split
    · rename_i hh
      obtain ⟨h1, h2⟩ := backF_bounds ts a b (by omega)
      exact ⟨h1, by omega⟩
    · exact ⟨h, Nat.le_refl _⟩
def trimF (ts : List Tk) (E j : Nat) : Nat × Nat :=
  if overF ts (isK 13) E j < E then (overF ts (isK 13) E j, backF ts (overF ts (isK 13) E j) E) else (j, j)
theorem backF_first (ts : List Tk) (a : Nat) : ∀ (b : Nat), a < b → kdA ts a ≠ 13 → a < backF ts a b
  | b + 1, h, hk => by
    show a < (if _ then _ else _)
    split
    · rename_i hh
      rcases Nat.lt_or_ge a b with h1 | h1
      · exact backF_first ts a b h1 hk
      · obtain rfl : a = b := by omega
        exact absurd hh.2 hk
    · exact h
theorem trimF_bounds (ts : List Tk) (E j : Nat) (h : j ≤ E) : j ≤ (trimF ts E j).1 ∧ (trimF ts E j).1 ≤ (trimF ts E j).2 ∧ (trimF ts E j).2 ≤ E := by
  obtain ⟨h1, h2, _⟩ := overF_bounds ts (isK 13) E _ j (Nat.le_refl _)
  unfold trimF
  split
  · rename_i hh
    obtain ⟨h3, h4⟩ := backF_bounds ts (overF ts (isK 13) E j) E (by omega)
    exact ⟨h1, h3, h4⟩
  · exact ⟨Nat.le_refl _, Nat.le_refl _, h⟩
structure Dl where
  name : ByteArray
  frm : Nat
  to : Nat
  imp : Bool
def dlCells (d : Dl) : List Go.Value := [.string d.name, .int .i64 d.frm, .int .i64 d.to, .bool d.imp]
def dashB (s : ByteArray) : Bool := decide (2 ≤ s.size) && ((s.extract 0 2).toList == [45, 45])
def propF (s : ByteArray) : ByteArray := if dashB s = true then s else lowS s
def markF (ts : List Tk) (a b : Nat) : Nat := (trimF ts (b - 1) a).2
def impB (ts : List Tk) (a b : Nat) : Bool :=
  decide (a < b) && (decide (kdA ts (b - 1) = 1) && (((lowS (txA ts (b - 1))).toList == [105, 109, 112, 111, 114, 116, 97, 110, 116]) && (decide (a < markF ts a b) && (decide (kdA ts (markF ts a b - 1) = 9) && ((txA ts (markF ts a b - 1)).toList == [33])))))
def declAt (ts : List Tk) (a b : Nat) (name : ByteArray) : Dl :=
  if impB ts a b = true then ⟨name, (trimF ts (markF ts a b - 1) a).1, (trimF ts (markF ts a b - 1) a).2, true⟩ else ⟨name, a, b, false⟩
def colonF (ts : List Tk) (E j : Nat) : Nat := overF ts (isK 13) E (j + 1)
def declB (ts : List Tk) (E j : Nat) : Bool := decide (kdA ts j = 1) && (decide (colonF ts E j < E) && decide (kdA ts (colonF ts E j) = 16))
def declF (ts : List Tk) (E j : Nat) : Dl := declAt ts (trimF ts E (colonF ts E j + 1)).1 (trimF ts E (colonF ts E j + 1)).2 (propF (txA ts j))
def declsGo (ts : List Tk) (E : Nat) : Nat → Nat → List Dl
  | 0, _ => []
  | f + 1, j => if j < E then
      if isK2 13 17 (kdA ts j) = true then declsGo ts E f (j + 1)
      else if kdA ts j = 3 then declsGo ts E f (atruleF ts E j).2
      else if declB ts (scanF ts (isK 17) E j) j = true then declF ts (scanF ts (isK 17) E j) j :: declsGo ts E f (scanF ts (isK 17) E j)
      else declsGo ts E f (scanF ts (isK 17) E j)
    else []
def declsF (ts : List Tk) (E j : Nat) : List Dl := declsGo ts E (E - j) j
theorem scanF_on (ts : List Tk) (p : Int → Bool) (E j : Nat) (h : j < E) (hp : p (kdA ts j) = false) : j < scanF ts p E j ∧ scanF ts p E j ≤ E := by
  rw [scanF_step, if_pos ⟨h, hp⟩]
  have h1 := cvF_bounds ts E j h
  have h2 := scanF_bounds ts p E (cvF ts E j) h1.2
  omega
theorem declsGo_end (ts : List Tk) (E : Nat) (f j : Nat) (h : E ≤ j) : declsGo ts E f j = [] := by
  cases f with
  | zero => rfl
  | succ f => show (if _ then _ else _) = _; rw [if_neg (by omega)]
theorem declsGo_fuel (ts : List Tk) (E : Nat) : ∀ (n j f f' : Nat), E - j ≤ n → E - j ≤ f → E - j ≤ f' → declsGo ts E f j = declsGo ts E f' j := by
  intro n
  induction n with
  | zero => intro j f f' h _ _; rw [declsGo_end _ _ _ _ (by omega), declsGo_end _ _ _ _ (by omega)]
  | succ n ih =>
    intro j f f' h h1 h2
    rcases Nat.lt_or_ge j E with hj | hj
    · obtain ⟨f, rfl⟩ : ∃ m, f = m + 1 := ⟨f - 1, by omega⟩
      obtain ⟨f', rfl⟩ : ∃ m, f' = m + 1 := ⟨f' - 1, by omega⟩
      have ha := atruleF_bounds ts E j hj
      show (if _ then _ else _) = (if _ then _ else _)
      rw [if_pos hj, if_pos hj]
      split
      · exact ih _ f f' (by omega) (by omega) (by omega)
      · rename_i hk
        have hs := scanF_on ts (isK 17) E j hj (by
          cases hp : isK 17 (kdA ts j) with
          | false => rfl
          | true => exact absurd (isK2_iff.2 (.inr (isK_iff.1 hp))) hk)
        split
        · exact ih _ f f' (by omega) (by omega) (by omega)
        · split
          · rw [ih _ f f' (by omega) (by omega) (by omega)]
          · exact ih _ f f' (by omega) (by omega) (by omega)
    · rw [declsGo_end _ _ _ _ hj, declsGo_end _ _ _ _ hj]
theorem declsF_step (ts : List Tk) (E j : Nat) : declsF ts E j =
    if j < E then
      if isK2 13 17 (kdA ts j) = true then declsF ts E (j + 1)
      else if kdA ts j = 3 then declsF ts E (atruleF ts E j).2
      else if declB ts (scanF ts (isK 17) E j) j = true then declF ts (scanF ts (isK 17) E j) j :: declsF ts E (scanF ts (isK 17) E j)
      else declsF ts E (scanF ts (isK 17) E j)
    else [] := by
  unfold declsF
  rcases Nat.lt_or_ge j E with hj | hj
  · have ha := atruleF_bounds ts E j hj
    rw [declsGo_fuel ts E _ j _ (E - j - 1 + 1) (Nat.le_refl _) (Nat.le_refl _) (by omega)]
    show (if _ then _ else _) = _
    rw [if_pos hj, if_pos hj]
    split
    · exact declsGo_fuel ts E _ _ _ _ (Nat.le_refl _) (by omega) (Nat.le_refl _)
    · rename_i hk
      have hs := scanF_on ts (isK 17) E j hj (by
        cases hp : isK 17 (kdA ts j) with
        | false => rfl
        | true => exact absurd (isK2_iff.2 (.inr (isK_iff.1 hp))) hk)
      split
      · exact declsGo_fuel ts E _ _ _ _ (Nat.le_refl _) (by omega) (Nat.le_refl _)
      · split
        · rw [declsGo_fuel ts E _ _ _ _ (Nat.le_refl _) (by omega) (Nat.le_refl _)]
        · exact declsGo_fuel ts E _ _ _ _ (Nat.le_refl _) (by omega) (Nat.le_refl _)
  · rw [declsGo_end _ _ _ _ hj, if_neg (by omega)]
end

section
open Go.RowKit
set_option linter.unusedVariables false
set_option linter.unusedSimpArgs false
structure TkRow (w : World) (b n : Nat) (ts : List Tk) : Prop where
  len : ts.length = n
  lt : b < w.heap.size
  kd : ∀ j, j < n → w.cell? ⟨b, j * 6, none⟩ = some (.int .i64 (kdA ts j))
  tx : ∀ j, j < n → w.cell? ⟨b, j * 6 + 3, none⟩ = some (.string (txA ts j))
  ex : ∀ j, j < n → ∃ (u1 u2 : Int) (u4 : ByteArray) (u5 : Bool), w.cell? ⟨b, j * 6 + 1, none⟩ = some (.int .i64 u1) ∧ w.cell? ⟨b, j * 6 + 2, none⟩ = some (.int .i64 u2) ∧ w.cell? ⟨b, j * 6 + 4, none⟩ = some (.string u4) ∧ w.cell? ⟨b, j * 6 + 5, none⟩ = some (.bool u5)
theorem TkRow.of {w w' : World} {b n : Nat} {ts : List Tk} (h : TkRow w b n ts) (hl : b < w'.heap.size) (hc : ∀ o, w'.cell? ⟨b, o, none⟩ = w.cell? ⟨b, o, none⟩) : TkRow w' b n ts :=
  ⟨h.len, hl, fun j hj => (hc _).trans (h.kd j hj), fun j hj => (hc _).trans (h.tx j hj), fun j hj => by
    obtain ⟨u1, u2, u4, u5, h1, h2, h4, h5⟩ := h.ex j hj
    exact ⟨u1, u2, u4, u5, (hc _).trans h1, (hc _).trans h2, (hc _).trans h4, (hc _).trans h5⟩⟩
theorem TkRow.later {w w' : World} {b n B : Nat} {ts : List Tk} (h : TkRow w b n ts) (hb : Below B w w') (hB : b < B) : TkRow w' b n ts :=
  h.of (Nat.lt_of_lt_of_le h.lt hb.size) (fun o => hb.cell (p := ⟨b, o, none⟩) hB)
theorem flatMap_cell : ∀ (ts : List Tk) (k : Nat) (t : Tk), ts[k]? = some t → ∀ (j : Nat), j < 6 → (ts.flatMap tkCells)[k * 6 + j]? = (tkCells t)[j]?
  | [], k, t, h, _, _ => by simp at h
  | s :: ts, 0, t, h, j, hj => by
    obtain rfl : s = t := by simpa using h
    rw [List.flatMap_cons, List.getElem?_append_left (by show _ < 6; omega), show 0 * 6 + j = j by omega]
  | s :: ts, k + 1, t, h, j, hj => by
    have hl : (tkCells s).length = 6 := rfl
    rw [List.flatMap_cons, List.getElem?_append_right (by rw [hl]; omega), hl, show (k + 1) * 6 + j - 6 = k * 6 + j from by omega]
    exact flatMap_cell ts k t (by simpa using h) j hj
theorem ReadsT.row {w : World} {a : Option Addr} {cap : Nat} {ts : List Tk} (h : ReadsT w a cap ts) : ∃ b, a = some ⟨b, 0, none⟩ ∧ TkRow w b ts.length ts := by
  obtain ⟨_, _, b, rfl, hb, hc⟩ := h
  refine ⟨b, rfl, rfl, hb, fun j hj => ?_, fun j hj => ?_, fun j hj => ?_⟩
  · have h1 : ts[j]? = some (ts[j]'hj) := List.getElem?_eq_getElem hj
    exact hc _ _ ((flatMap_cell ts j _ h1 0 (by omega)).trans (by rw [kdA_at hj]; rfl))
  · have h1 : ts[j]? = some (ts[j]'hj) := List.getElem?_eq_getElem hj
    exact hc _ _ ((flatMap_cell ts j _ h1 3 (by omega)).trans (by rw [txA_at hj]; rfl))
  · have h1 : ts[j]? = some (ts[j]'hj) := List.getElem?_eq_getElem hj
    exact ⟨_, _, _, _, hc _ _ ((flatMap_cell ts j _ h1 1 (by omega)).trans rfl), hc _ _ ((flatMap_cell ts j _ h1 2 (by omega)).trans rfl), hc _ _ ((flatMap_cell ts j _ h1 4 (by omega)).trans rfl), hc _ _ ((flatMap_cell ts j _ h1 5 (by omega)).trans rfl)⟩
theorem Try.infoRule : (Try.prog.info? 32).map (fun i => (i.zero, i.size, i.bytes)) = some (some (.agg #[.bool false, .string ⟨#[]⟩, .int .i64 0, .int .i64 0, .bool false, .int .i64 0, .int .i64 0]), 7, 64) := by kernel_rfl
theorem Try.infoDecl : (Try.prog.info? 41).map (fun i => (i.zero, i.size, i.bytes)) = some (some (.agg #[.string ⟨#[]⟩, .int .i64 0, .int .i64 0, .bool false]), 4, 40) := by kernel_rfl
end

section
open Go.RowKit
set_option linter.unusedVariables false
set_option linter.unusedSimpArgs false
theorem rkcloser_any (k : Int) (w : World) : Calls Try.prog 38 #[.int .i64 k] w (Tells (.int .i64 (closeOf k)) w) := by
  by_cases h1 : k = 21
  · subst h1
    go_enter Try.func38, Try.ntmps38
    go_wp2
    go_ret
    exact ⟨rfl, rfl⟩
  · have n1 : (k == 21) = false := beq_eq_false_iff_ne.2 h1
    by_cases h2 : k = 2
    · subst h2
      clear n1 h1
      go_enter Try.func38, Try.ntmps38
      go_wp2
      go_ret
      exact ⟨rfl, rfl⟩
    · have n2 : (k == 2) = false := beq_eq_false_iff_ne.2 h2
      by_cases h3 : k = 19
      · subst h3
        clear n1 h1 n2 h2
        go_enter Try.func38, Try.ntmps38
        go_wp2
        go_ret
        exact ⟨rfl, rfl⟩
      · have n3 : (k == 19) = false := beq_eq_false_iff_ne.2 h3
        by_cases h4 : k = 23
        · subst h4
          clear n1 h1 n2 h2 n3 h3
          go_enter Try.func38, Try.ntmps38
          go_wp2
          go_ret
          exact ⟨rfl, rfl⟩
        · have n4 : (k == 23) = false := beq_eq_false_iff_ne.2 h4
          have hc : closeOf k = 0 := by unfold closeOf; rw [if_neg (by omega), if_neg h3, if_neg h4]
          rw [hc]
          clear h1 h2 h3 h4 hc
          go_enter Try.func38, Try.ntmps38
          go_wp2
          go_ret
          exact ⟨rfl, rfl⟩
def TwoI (a b : Int) (w : World) (e : Ending) (w' : World) : Prop := e = .returned (.tuple #[.int .i64 a, .int .i64 b]) ∧ w' = w
def CutR (ts : List Tk) (e0 a E : Nat) (t' T : Int) (i : Nat) : Prop := (T = t' ∧ a ≤ i ∧ endF ts e0 i = E) ∨ (T = (E : Int) ∧ i = E + 1)
set_option maxRecDepth 100000 in
set_option maxHeartbeats 4000000 in
theorem rkcut_any {ts : List Tk} {b n cap : Nat} {w : World} (f t : Int) (a e0 : Nat) (hT : TkRow w b n ts) (hcap : n ≤ cap) (hc2 : cap ≤ maxLen) (hn : n ≤ 1000000) (ha : (a : Int) = max f 0) (ha2 : (a : Int) ≤ 9223372036854775807) (he : (e0 : Int) = max (min t n) 0) :
    Calls Try.prog 12 #[.slice (some ⟨b, 0, none⟩) n cap, .int .i64 f, .int .i64 t] w (TwoI (a : Int) (endF ts e0 a : Nat) w) := by
  have hge := endF_ge ts e0 a
  have hle := endF_le ts e0 a
  generalize hE : endF ts e0 a = E at *
  have HE := Lib.hid hE
  have HT := Lib.hid hT
  clear hE hT
  unfold maxLen at hc2
  obtain ⟨T0, hT0⟩ : ∃ T0 : Int, T0 = min t n := ⟨_, rfl⟩
  have hT1 : T0 ≤ n := by omega
  have he2 : (e0 : Int) = max T0 0 := by omega
  have hen : e0 ≤ n := by omega
  have key : ∀ (i : Nat), i < n → kdA ts i ≠ 0 → i < e0 → endF ts e0 i = endF ts e0 (i + 1) := fun i h1 h2 h3 => by rw [endF_step, if_pos ⟨h3, h2⟩]
  have key2 : ∀ (i : Nat), (kdA ts i = 0 ∨ e0 ≤ i) → endF ts e0 i = i := fun i h => by rw [endF_step, if_neg (by omega)]
  have HK := Lib.hid key
  have HK2 := Lib.hid key2
  clear key key2
  rcases Classical.em (f < 0) with hf | hf <;> rcases Classical.em ((n : Int) < t) with ht | ht
  case inl.inl =>
    obtain rfl : a = 0 := by omega
    obtain rfl : T0 = (n : Int) := by omega
    clear ha he hT0
    go_enter Try.func12, Try.ntmps12
    go_wp2_with fail
    go_loopw [2, 8] (fun v2 v8 wr => ∃ (i : Nat) (T : Int), v2 = .int .i64 T ∧ v8 = .int .i64 i ∧ Hid (CutR ts e0 0 E (n : Int) T i) ∧ T ≤ n ∧ wr = w) (fun v2 v8 _ => (intOf v2 - intOf v8).toNat)
    case atStart => exact ⟨0, (n : Int), rfl, rfl, Lib.hid (.inl ⟨rfl, by omega, HE.out⟩), by omega, rfl⟩
    case round =>
      obtain ⟨i, T, rfl, rfl, hR, hTn, rfl⟩ := hrel
      by_cases hi : (i : Int) < T
      · have hi2 : i < n := by omega
        have hi3 : (i : Int) < (n : Int) := by omega
        have c0 := HT.out.kd i hi2
        by_cases h0 : kdA ts i = 0
        · have HN : Hid (CutR ts e0 0 E (n : Int) i (i + 1)) := Lib.hid (by
            rcases hR.out with ⟨h1, h2, h3⟩ | ⟨h1, h2⟩
            · have h4 := HK2.out i (.inl h0)
              exact .inr ⟨by omega, by omega⟩
            · omega)
          rw [h0] at c0
          clear h0 hR
          go_wp2
          go_roundw
          case rel => exact ⟨i + 1, i, rfl, by go_num, HN, by omega, by first | rfl | trivial⟩
          case measure => simp [intOf]; omega
        · have HN : Hid (CutR ts e0 0 E (n : Int) T (i + 1)) := Lib.hid (by
            rcases hR.out with ⟨h1, h2, h3⟩ | ⟨h1, h2⟩
            · exact .inl ⟨h1, by omega, by rw [← h3]; exact (HK.out i hi2 h0 (by omega)).symm⟩
            · omega)
          have n0 : (kdA ts i == 0) = false := beq_eq_false_iff_ne.2 h0
          clear h0 hR
          generalize kdA ts i = q at *
          go_wp2
          go_roundw
          case rel => exact ⟨i + 1, T, rfl, by go_num, HN, by omega, by first | rfl | trivial⟩
          case measure => simp [intOf]; omega
      · have hend : (max T 0 : Int) = E := by
          rcases hR.out with ⟨h1, h2, h3⟩ | ⟨h1, h2⟩
          · have h4 := HK2.out i (.inr (by omega))
            omega
          · omega
        clear hR
        by_cases hT : T < 0
        · obtain rfl : E = 0 := by omega
          go_wp2
          go_ret2
          exact ⟨rfl, rfl⟩
        · obtain rfl : T = (E : Int) := by omega
          go_wp2
          go_ret2
          exact ⟨rfl, rfl⟩
  case inl.inr =>
    obtain rfl : a = 0 := by omega
    obtain rfl : T0 = t := by omega
    clear ha he hT0
    go_enter Try.func12, Try.ntmps12
    go_wp2_with fail
    go_loopw [2, 8] (fun v2 v8 wr => ∃ (i : Nat) (T : Int), v2 = .int .i64 T ∧ v8 = .int .i64 i ∧ Hid (CutR ts e0 0 E T0 T i) ∧ T ≤ n ∧ wr = w) (fun v2 v8 _ => (intOf v2 - intOf v8).toNat)
    case atStart => exact ⟨0, T0, rfl, rfl, Lib.hid (.inl ⟨rfl, by omega, HE.out⟩), by omega, rfl⟩
    case round =>
      obtain ⟨i, T, rfl, rfl, hR, hTn, rfl⟩ := hrel
      by_cases hi : (i : Int) < T
      · have hi2 : i < n := by omega
        have hi3 : (i : Int) < (n : Int) := by omega
        have c0 := HT.out.kd i hi2
        by_cases h0 : kdA ts i = 0
        · have HN : Hid (CutR ts e0 0 E T0 i (i + 1)) := Lib.hid (by
            rcases hR.out with ⟨h1, h2, h3⟩ | ⟨h1, h2⟩
            · have h4 := HK2.out i (.inl h0)
              exact .inr ⟨by omega, by omega⟩
            · omega)
          rw [h0] at c0
          clear h0 hR
          go_wp2
          go_roundw
          case rel => exact ⟨i + 1, i, rfl, by go_num, HN, by omega, by first | rfl | trivial⟩
          case measure => simp [intOf]; omega
        · have HN : Hid (CutR ts e0 0 E T0 T (i + 1)) := Lib.hid (by
            rcases hR.out with ⟨h1, h2, h3⟩ | ⟨h1, h2⟩
            · exact .inl ⟨h1, by omega, by rw [← h3]; exact (HK.out i hi2 h0 (by omega)).symm⟩
            · omega)
          have n0 : (kdA ts i == 0) = false := beq_eq_false_iff_ne.2 h0
          clear h0 hR
          generalize kdA ts i = q at *
          go_wp2
          go_roundw
          case rel => exact ⟨i + 1, T, rfl, by go_num, HN, by omega, by first | rfl | trivial⟩
          case measure => simp [intOf]; omega
      · have hend : (max T 0 : Int) = E := by
          rcases hR.out with ⟨h1, h2, h3⟩ | ⟨h1, h2⟩
          · have h4 := HK2.out i (.inr (by omega))
            omega
          · omega
        clear hR
        by_cases hT : T < 0
        · obtain rfl : E = 0 := by omega
          go_wp2
          go_ret2
          exact ⟨rfl, rfl⟩
        · obtain rfl : T = (E : Int) := by omega
          go_wp2
          go_ret2
          exact ⟨rfl, rfl⟩
  case inr.inl =>
    obtain rfl : f = (a : Int) := by omega
    obtain rfl : T0 = (n : Int) := by omega
    clear ha he hT0
    go_enter Try.func12, Try.ntmps12
    go_wp2_with fail
    go_loopw [2, 8] (fun v2 v8 wr => ∃ (i : Nat) (T : Int), v2 = .int .i64 T ∧ v8 = .int .i64 i ∧ Hid (CutR ts e0 a E (n : Int) T i) ∧ T ≤ n ∧ wr = w) (fun v2 v8 _ => (intOf v2 - intOf v8).toNat)
    case atStart => exact ⟨a, (n : Int), rfl, rfl, Lib.hid (.inl ⟨rfl, by omega, HE.out⟩), by omega, rfl⟩
    case round =>
      obtain ⟨i, T, rfl, rfl, hR, hTn, rfl⟩ := hrel
      by_cases hi : (i : Int) < T
      · have hi2 : i < n := by omega
        have hi3 : (i : Int) < (n : Int) := by omega
        have c0 := HT.out.kd i hi2
        by_cases h0 : kdA ts i = 0
        · have HN : Hid (CutR ts e0 a E (n : Int) i (i + 1)) := Lib.hid (by
            rcases hR.out with ⟨h1, h2, h3⟩ | ⟨h1, h2⟩
            · have h4 := HK2.out i (.inl h0)
              exact .inr ⟨by omega, by omega⟩
            · omega)
          rw [h0] at c0
          clear h0 hR
          go_wp2
          go_roundw
          case rel => exact ⟨i + 1, i, rfl, by go_num, HN, by omega, by first | rfl | trivial⟩
          case measure => simp [intOf]; omega
        · have HN : Hid (CutR ts e0 a E (n : Int) T (i + 1)) := Lib.hid (by
            rcases hR.out with ⟨h1, h2, h3⟩ | ⟨h1, h2⟩
            · exact .inl ⟨h1, by omega, by rw [← h3]; exact (HK.out i hi2 h0 (by omega)).symm⟩
            · omega)
          have n0 : (kdA ts i == 0) = false := beq_eq_false_iff_ne.2 h0
          clear h0 hR
          generalize kdA ts i = q at *
          go_wp2
          go_roundw
          case rel => exact ⟨i + 1, T, rfl, by go_num, HN, by omega, by first | rfl | trivial⟩
          case measure => simp [intOf]; omega
      · have hend : (max T a : Int) = E := by
          rcases hR.out with ⟨h1, h2, h3⟩ | ⟨h1, h2⟩
          · have h4 := HK2.out i (.inr (by omega))
            omega
          · omega
        clear hR
        by_cases hT : T < a
        · obtain rfl : E = a := by omega
          go_wp2
          go_ret2
          exact ⟨rfl, rfl⟩
        · obtain rfl : T = (E : Int) := by omega
          go_wp2
          go_ret2
          exact ⟨rfl, rfl⟩
  case inr.inr =>
    obtain rfl : f = (a : Int) := by omega
    obtain rfl : T0 = t := by omega
    clear ha he hT0
    go_enter Try.func12, Try.ntmps12
    go_wp2_with fail
    go_loopw [2, 8] (fun v2 v8 wr => ∃ (i : Nat) (T : Int), v2 = .int .i64 T ∧ v8 = .int .i64 i ∧ Hid (CutR ts e0 a E T0 T i) ∧ T ≤ n ∧ wr = w) (fun v2 v8 _ => (intOf v2 - intOf v8).toNat)
    case atStart => exact ⟨a, T0, rfl, rfl, Lib.hid (.inl ⟨rfl, by omega, HE.out⟩), by omega, rfl⟩
    case round =>
      obtain ⟨i, T, rfl, rfl, hR, hTn, rfl⟩ := hrel
      by_cases hi : (i : Int) < T
      · have hi2 : i < n := by omega
        have hi3 : (i : Int) < (n : Int) := by omega
        have c0 := HT.out.kd i hi2
        by_cases h0 : kdA ts i = 0
        · have HN : Hid (CutR ts e0 a E T0 i (i + 1)) := Lib.hid (by
            rcases hR.out with ⟨h1, h2, h3⟩ | ⟨h1, h2⟩
            · have h4 := HK2.out i (.inl h0)
              exact .inr ⟨by omega, by omega⟩
            · omega)
          rw [h0] at c0
          clear h0 hR
          go_wp2
          go_roundw
          case rel => exact ⟨i + 1, i, rfl, by go_num, HN, by omega, by first | rfl | trivial⟩
          case measure => simp [intOf]; omega
        · have HN : Hid (CutR ts e0 a E T0 T (i + 1)) := Lib.hid (by
            rcases hR.out with ⟨h1, h2, h3⟩ | ⟨h1, h2⟩
            · exact .inl ⟨h1, by omega, by rw [← h3]; exact (HK.out i hi2 h0 (by omega)).symm⟩
            · omega)
          have n0 : (kdA ts i == 0) = false := beq_eq_false_iff_ne.2 h0
          clear h0 hR
          generalize kdA ts i = q at *
          go_wp2
          go_roundw
          case rel => exact ⟨i + 1, T, rfl, by go_num, HN, by omega, by first | rfl | trivial⟩
          case measure => simp [intOf]; omega
      · have hend : (max T a : Int) = E := by
          rcases hR.out with ⟨h1, h2, h3⟩ | ⟨h1, h2⟩
          · have h4 := HK2.out i (.inr (by omega))
            omega
          · omega
        clear hR
        by_cases hT : T < a
        · obtain rfl : E = a := by omega
          go_wp2
          go_ret2
          exact ⟨rfl, rfl⟩
        · obtain rfl : T = (E : Int) := by omega
          go_wp2
          go_ret2
          exact ⟨rfl, rfl⟩
def closeF (ts : List Tk) (E j : Nat) : Nat := if closeOf (kdA ts j) = 0 then j + 1 else scanF ts (isK (closeOf (kdA ts j))) E (j + 1)
theorem isK_no {a k : Int} (h : k ≠ a) : isK a k = false := decide_eq_false h
theorem isK_yes {a k : Int} (h : k = a) : isK a k = true := decide_eq_true h
set_option maxRecDepth 100000 in
set_option maxHeartbeats 4000000 in
theorem rkbehind_any {ts : List Tk} {b n cap E : Nat} (hcap : n ≤ cap) (hc2 : cap ≤ maxLen) (hn : n ≤ 1000000) (hE : E ≤ n) : ∀ (m j : Nat) (w : World), E - j ≤ m → j < E → TkRow w b n ts →
    Calls Try.prog 26 #[.slice (some ⟨b, 0, none⟩) n cap, .int .i64 j, .int .i64 E] w (TwoI (cvF ts E j : Nat) (closeF ts E j : Nat) w) := by
  unfold maxLen at hc2
  intro m
  induction m with
  | zero => intro j w h hj _; omega
  | succ m ih =>
    intro j w h hj hT
    have IH : Hid (∀ (j' : Nat), j < j' → j' < E → Calls Try.prog 26 #[.slice (some ⟨b, 0, none⟩) n cap, .int .i64 j', .int .i64 E] w (TwoI (cvF ts E j' : Nat) (closeF ts E j' : Nat) w)) := Lib.hid fun j' h1 h2 => ih j' w (by omega) h2 hT
    clear ih
    have HT := Lib.hid hT
    have hjn : (j : Int) < (n : Int) := by omega
    have c0 := hT.kd j (by omega)
    have cC := rkcloser_any (kdA ts j) w
    have hnx := cvF_step ts E j hj
    have hcl : closeF ts E j = if closeOf (kdA ts j) = 0 then j + 1 else scanF ts (isK (closeOf (kdA ts j))) E (j + 1) := rfl
    clear hT
    generalize hN : cvF ts E j = N at *
    generalize hM : closeF ts E j = M at *
    generalize hq : kdA ts j = q at *
    generalize hc : closeOf q = c at *
    clear hN hM hq hc
    by_cases h0 : c = 0
    · subst h0
      rw [if_pos rfl] at hnx hcl
      subst hnx hcl
      go_enter Try.func26, Try.ntmps26
      go_wp2_with (first | (go_at_call 38; ((with_reducible refine cC.mono ?_)); rintro e wq ⟨rfl, hwq⟩; replace hwq := hwq.symm; subst hwq))
      go_ret2
      exact ⟨rfl, rfl⟩
    · have n0 : (c == 0) = false := beq_eq_false_iff_ne.2 h0
      rw [if_neg h0] at hnx hcl
      have HN := Lib.hid hnx
      have HM := Lib.hid hcl
      clear hnx hcl h0
      go_enter Try.func26, Try.ntmps26
      go_wp2_with (first | (go_at_call 38; ((with_reducible refine cC.mono ?_)); rintro e wq ⟨rfl, hwq⟩; replace hwq := hwq.symm; subst hwq))
      go_loopw [1] (fun v wr => ∃ i : Nat, v = .int .i64 i ∧ j + 1 ≤ i ∧ i ≤ E ∧ Hid (scanF ts (isK c) E i = M) ∧ wr = w) (fun v _ => E - (intOf v).toNat)
      case atStart => exact ⟨j + 1, by go_num, by omega, by omega, Lib.hid HM.out.symm, rfl⟩
      case round =>
        obtain ⟨i, rfl, hji, hiE, hS, rfl⟩ := hrel
        by_cases hi : i < E
        · have hi1 : (i : Int) < (E : Int) := by omega
          have hi2 : (i : Int) < (n : Int) := by omega
          have c1 := HT.out.kd i (by omega)
          by_cases hk : kdA ts i = c
          · have hMi : M = i := by
              rw [← hS.out, scanF_step, if_neg (by rw [isK_yes hk]; simp)]
            have hNi : N = i + 1 := by
              have h1 := HN.out
              have h2 := HM.out
              rw [show (fun k => decide (k = c)) = isK c from rfl, ← h2, hMi] at h1
              omega
            subst hMi
            rw [hk] at c1
            subst hNi
            clear hk hS HN HM
            go_wp2
            go_ret2
            exact ⟨rfl, rfl⟩
          · have nk : (kdA ts i != c) = true := bne_iff_ne.2 hk
            have HS : Hid (scanF ts (isK c) E (cvF ts E i) = M) := Lib.hid (by
              rw [← hS.out]; conv => rhs; rw [scanF_step, if_pos ⟨hi, isK_no hk⟩])
            have hb := cvF_bounds ts E i hi
            have cB := IH.out i (by omega) hi
            clear hk hS
            generalize kdA ts i = q2 at *
            generalize cvF ts E i = i2 at *
            go_wp2_with (first | (go_at_call 26; ((with_reducible refine cB.mono ?_)); rintro e wq ⟨rfl, hwq⟩; replace hwq := hwq.symm; subst hwq))
            go_roundw
            case rel => exact ⟨i2, by go_num, by omega, by omega, HS, by first | rfl | trivial⟩
            case measure => simp [intOf]; omega
        · have hMi : M = E := by rw [← hS.out, scanF_end _ _ _ _ (by omega)]; omega
          have hNi : N = E := by
            have h1 := HN.out
            have h2 := HM.out
            rw [show (fun k => decide (k = c)) = isK c from rfl, ← h2, hMi] at h1
            omega
          obtain rfl : i = E := by omega
          subst hMi
          subst hNi
          clear hS HN HM
          go_wp2
          go_ret2
          exact ⟨rfl, rfl⟩
set_option maxRecDepth 100000 in
set_option maxHeartbeats 4000000 in
theorem rkuntil_any {ts : List Tk} {b n cap E : Nat} {w : World} (x y : Int) (j : Nat) (hT : TkRow w b n ts) (hcap : n ≤ cap) (hc2 : cap ≤ maxLen) (hn : n ≤ 1000000) (hE : E ≤ n) (hj : j ≤ E) :
    Calls Try.prog 25 #[.slice (some ⟨b, 0, none⟩) n cap, .int .i64 j, .int .i64 E, .int .i64 x, .int .i64 y] w (Tells (.int .i64 (scanF ts (isK2 x y) E j : Nat)) w) := by
  have IH : Hid (∀ (j' : Nat), j' < E → Calls Try.prog 26 #[.slice (some ⟨b, 0, none⟩) n cap, .int .i64 j', .int .i64 E] w (TwoI (cvF ts E j' : Nat) (closeF ts E j' : Nat) w)) := Lib.hid fun j' h2 => rkbehind_any hcap hc2 hn hE _ j' w (Nat.le_refl _) h2 hT
  unfold maxLen at hc2
  have HT := Lib.hid hT
  clear hT
  generalize hM : scanF ts (isK2 x y) E j = M at *
  have HM := Lib.hid hM
  clear hM
  go_enter Try.func25, Try.ntmps25
  go_wp2_with fail
  go_loopw [1] (fun v wr => ∃ i : Nat, v = .int .i64 i ∧ j ≤ i ∧ i ≤ E ∧ Hid (scanF ts (isK2 x y) E i = M) ∧ wr = w) (fun v _ => E - (intOf v).toNat)
  case atStart => exact ⟨j, by go_num, by omega, by omega, HM, rfl⟩
  case round =>
    obtain ⟨i, rfl, hji, hiE, hS, rfl⟩ := hrel
    by_cases hi : i < E
    · have hi1 : (i : Int) < (E : Int) := by omega
      have hi2 : (i : Int) < (n : Int) := by omega
      have c1 := HT.out.kd i (by omega)
      by_cases hkx : kdA ts i = x
      · have hMi : M = i := by rw [← hS.out, scanF_step, if_neg (by rw [isK2_iff.2 (.inl hkx)]; simp)]
        subst hMi
        rw [hkx] at c1
        clear hkx hS HM
        go_wp2
        go_ret
        exact ⟨rfl, rfl⟩
      · have nx : (kdA ts i != x) = true := bne_iff_ne.2 hkx
        by_cases hky : kdA ts i = y
        · have hMi : M = i := by rw [← hS.out, scanF_step, if_neg (by rw [isK2_iff.2 (.inr hky)]; simp)]
          subst hMi
          rw [hky] at c1 nx
          clear hky hkx hS HM
          go_wp2
          go_ret
          exact ⟨rfl, rfl⟩
        · have ny : (kdA ts i != y) = true := bne_iff_ne.2 hky
          have HS : Hid (scanF ts (isK2 x y) E (cvF ts E i) = M) := Lib.hid (by
            rw [← hS.out]; conv => rhs; rw [scanF_step, if_pos ⟨hi, by
              cases hp : isK2 x y (kdA ts i) with
              | false => rfl
              | true => rcases isK2_iff.1 hp with h | h
                        · exact absurd h hkx
                        · exact absurd h hky⟩])
          have hb := cvF_bounds ts E i hi
          have cB := IH.out i hi
          clear hkx hky hS
          generalize kdA ts i = q2 at *
          generalize cvF ts E i = i2 at *
          go_wp2_with (first | (go_at_call 26; ((with_reducible refine cB.mono ?_)); rintro e wq ⟨rfl, hwq⟩; replace hwq := hwq.symm; subst hwq))
          go_roundw
          case rel => exact ⟨i2, by go_num, by omega, by omega, HS, by first | rfl | trivial⟩
          case measure => simp [intOf]; omega
    · have hMi : M = i := by rw [← hS.out, scanF_end _ _ _ _ (by omega)]
      subst hMi
      have hi1 : ¬ (M : Int) < (E : Int) := by omega
      clear hS HM
      go_wp2
      go_ret
      exact ⟨rfl, rfl⟩
end
end Go.Proofs.Ytelbjnanpmdnnaa
