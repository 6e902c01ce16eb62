/- Selectors: whether two are one; lists that lie in blocks of their own, each in its own stretch of memory: mathematics. -/
import Derived.Test.YtfgnepbpfglepaaSl0
namespace Go.Proofs.Ytfgnepbpfglepaa
open Go.RowKit
set_option linter.unusedVariables false

def lxDec : (d : Nat) → DecidableEq (Lx d)
  | 0 => inferInstanceAs (DecidableEq Unit)
  | d + 1 => letI := lxDec d; inferInstanceAs (DecidableEq (List (List (Int × List (Flat × Lx d)))))
instance lxEq (d : Nat) : DecidableEq (Lx d) := lxDec d

/-- A row in a block of its own, whose parts have their own in stretches of memory one behind the other. -/
def OwnRow {α : Type} (sz : Nat) (T : TypeId) (Q : List Value → Nat → Nat → Nat → α → Prop) (w : World) (lo hi b : Nat) (xs : List α) : Prop :=
  ∃ (cs : List Value) (h : Nat → Nat), Blk w b cs T ∧ cs.length = xs.length * sz ∧ lo ≤ b ∧ b < h 0 ∧ (∀ i, i < xs.length → h i ≤ h (i + 1)) ∧ h xs.length ≤ hi ∧ ∀ i x, xs[i]? = some x → Q cs (i * sz) (h i) (h (i + 1)) x
theorem steps_le {n : Nat} {h : Nat → Nat} (hs : ∀ i, i < n → h i ≤ h (i + 1)) : ∀ i j, i ≤ j → j ≤ n → h i ≤ h j
  | i, 0, hij, _ => by rw [show i = 0 by omega]; exact Nat.le_refl _
  | i, j + 1, hij, hj => by
    by_cases he : i = j + 1
    · rw [he]; exact Nat.le_refl _
    · exact Nat.le_trans (steps_le hs i j (by omega) (by omega)) (hs j (by omega))
theorem OwnRow.imp {α : Type} {sz : Nat} {T : TypeId} {Q Q' : List Value → Nat → Nat → Nat → α → Prop} {w w' : World} {lo hi b : Nat} {xs : List α} (h : OwnRow sz T Q w lo hi b xs) (hm : ∀ bl, lo ≤ bl → bl < hi → w'.heap[bl]? = w.heap[bl]?)
    (hq : ∀ cs o l k x, lo ≤ l → k ≤ hi → Q cs o l k x → Q' cs o l k x) : OwnRow sz T Q' w' lo hi b xs := by
  obtain ⟨cs, f, h1, h2, h3, h4, h5, h6, h7⟩ := h
  have h0 : f 0 ≤ f xs.length := steps_le h5 0 _ (Nat.zero_le _) (Nat.le_refl _)
  refine ⟨cs, f, (hm b h3 (by omega)).trans h1, h2, h3, h4, h5, h6, fun i x hx => ?_⟩
  have hi' := (List.getElem?_eq_some_iff.1 hx).1
  have h8 := steps_le h5 0 i (Nat.zero_le _) (by omega)
  have h9 := steps_le h5 (i + 1) xs.length (by omega) (Nat.le_refl _)
  exact hq _ _ _ _ _ (by omega) (by omega) (h7 i x hx)

/-- A slice of a whole block. -/
def whole (b n : Nat) : Value := .slice (some ⟨b, 0, none⟩) n n
def FlatC (cs : List Value) (o : Nat) (f : Flat) : Prop :=
  cs[o]? = some (.int .i64 f.kind) ∧ cs[o + 1]? = some (.int .i64 f.ns) ∧ cs[o + 2]? = some (.string f.pre) ∧ cs[o + 3]? = some (.string f.name) ∧ cs[o + 4]? = some (.int .i64 f.op) ∧ cs[o + 5]? = some (.string f.text) ∧
  cs[o + 6]? = some (.bool f.fold) ∧ cs[o + 7]? = some (.int .i64 f.mark) ∧ cs[o + 8]? = some (.int .i64 f.a) ∧ cs[o + 9]? = some (.int .i64 f.b)
def OwnS {L : Type} (R : Nat → Nat → Nat → Nat → L → Prop) (cs : List Value) (o lo hi : Nat) (s : Flat × L) : Prop :=
  FlatC cs o s.1 ∧ FlatOk s.1 ∧ ∃ b n, cs[o + 10]? = some (whole b n) ∧ R lo hi b n s.2
def OwnK {L : Type} (R : Nat → Nat → Nat → Nat → L → Prop) (w : World) (cs : List Value) (o lo hi : Nat) (k : Int × List (Flat × L)) : Prop :=
  cs[o]? = some (.int .i64 k.1) ∧ ∃ b, cs[o + 1]? = some (whole b k.2.length) ∧ k.2.length ≤ 1000000 ∧ OwnRow 11 86 (OwnS R) w lo hi b k.2
def OwnX {L : Type} (R : Nat → Nat → Nat → Nat → L → Prop) (w : World) (cs : List Value) (o lo hi : Nat) (x : List (Int × List (Flat × L))) : Prop :=
  ∃ b, cs[o]? = some (whole b x.length) ∧ x.length ≤ 1000000 ∧ OwnRow 2 95 (OwnK R w) w lo hi b x
/-- A list of selectors that lies in blocks of its own. -/
def OwnL : (d : Nat) → World → (lo hi b n : Nat) → Lx d → Prop
  | 0, w, lo, hi, b, n, _ => n = 0 ∧ lo ≤ b ∧ b < hi
  | d + 1, w, lo, hi, b, n, x => n = List.length (α := List (Int × List (Flat × Lx d))) x ∧ n ≤ 1000000 ∧ OwnRow (α := List (Int × List (Flat × Lx d))) 1 79 (OwnX (OwnL d w) w) w lo hi b x
theorem OwnK.move {L : Type} {R R' : Nat → Nat → Nat → Nat → L → Prop} {w w' : World} {cs : List Value} {o lo hi : Nat} {k : Int × List (Flat × L)} (h : OwnK R w cs o lo hi k) (hm : ∀ bl, lo ≤ bl → bl < hi → w'.heap[bl]? = w.heap[bl]?)
    (hR : ∀ l k b n x, lo ≤ l → k ≤ hi → R l k b n x → R' l k b n x) : OwnK R' w' cs o lo hi k := by
  obtain ⟨h0, b, h1, h2, h3⟩ := h
  refine ⟨h0, b, h1, h2, h3.imp hm ?_⟩
  rintro cs o l k x hl hk ⟨s1, s2, b, n, s3, s4⟩
  exact ⟨s1, s2, b, n, s3, hR _ _ _ _ _ hl hk s4⟩
theorem OwnX.move {L : Type} {R R' : Nat → Nat → Nat → Nat → L → Prop} {w w' : World} {cs : List Value} {o lo hi : Nat} {x : List (Int × List (Flat × L))} (h : OwnX R w cs o lo hi x) (hm : ∀ bl, lo ≤ bl → bl < hi → w'.heap[bl]? = w.heap[bl]?)
    (hR : ∀ l k b n x, lo ≤ l → k ≤ hi → R l k b n x → R' l k b n x) : OwnX R' w' cs o lo hi x := by
  obtain ⟨b, h1, h2, h3⟩ := h
  refine ⟨b, h1, h2, h3.imp hm ?_⟩
  intro cs o l k x hl hk hx
  exact hx.move (fun bl h1 h2 => hm bl (by omega) (by omega)) (fun l' k' b n x h1 h2 => hR _ _ _ _ _ (by omega) (by omega))
theorem OwnL.move : ∀ {d : Nat} {w w' : World} {lo hi b n : Nat} {x : Lx d}, OwnL d w lo hi b n x → (∀ bl, lo ≤ bl → bl < hi → w'.heap[bl]? = w.heap[bl]?) → OwnL d w' lo hi b n x
  | 0, w, w', lo, hi, b, n, x, h, hm => h
  | d + 1, w, w', lo, hi, b, n, x, h, hm => by
    obtain ⟨h1, h2, h3⟩ := h
    refine ⟨h1, h2, OwnRow.imp h3 hm ?_⟩
    intro cs o l k x hl hk hx
    exact hx.move (fun bl h1 h2 => hm bl (by omega) (by omega)) (fun l' k' b n x h1 h2 h => OwnL.move h (fun bl h3 h4 => hm bl (by omega) (by omega)))
theorem OwnRow.rd {α : Type} {sz : Nat} {T : TypeId} {Q : List Value → Nat → Nat → Nat → α → Prop} {P : Nat → Nat → α → Prop} {w : World} {lo hi b : Nat} {xs : List α} {ok : Nat → Prop} (h : OwnRow sz T Q w lo hi b xs) (hn : xs.length ≤ 1000000) (hok : ∀ bl, lo ≤ bl → bl < hi → ok bl)
    (hq : ∀ cs o l k x, lo ≤ l → k ≤ hi → Blk w b cs T → Q cs o l k x → P b o x) : RdOf ok sz P (some ⟨b, 0, none⟩) xs.length xs.length xs := by
  obtain ⟨cs, f, h1, h2, h3, h4, h5, h6, h7⟩ := h
  have h0 : f 0 ≤ f xs.length := steps_le h5 0 _ (Nat.zero_le _) (Nat.le_refl _)
  refine ⟨rfl, Nat.le_refl _, ⟨by unfold maxLen; omega, by omega⟩, .inr ⟨b, 0, rfl, hok b h3 (by omega), fun i x hx => ?_⟩⟩
  have hi' := (List.getElem?_eq_some_iff.1 hx).1
  have h8 := steps_le h5 0 i (Nat.zero_le _) (by omega)
  have h9 := steps_le h5 (i + 1) xs.length (by omega) (Nat.le_refl _)
  rw [Nat.zero_add]
  exact hq cs _ _ _ _ (by omega) (by omega) h1 (h7 i x hx)
/-- It reads as the list. -/
theorem OwnL.rd : ∀ {d : Nat} {w : World} {lo hi b n : Nat} {x : Lx d} {ok : Nat → Prop}, OwnL d w lo hi b n x → (∀ bl, lo ≤ bl → bl < hi → ok bl) → RdL ok d w (some ⟨b, 0, none⟩) n n x
  | 0, w, lo, hi, b, n, x, ok, h, hok => ⟨h.1, by rw [h.1]; exact Nat.zero_le _⟩
  | d + 1, w, lo, hi, b, n, x, ok, h, hok => by
    obtain ⟨h1, h2, h3⟩ := h
    subst h1
    refine OwnRow.rd (P := ComplexAt ok (RdL ok d w) w) h3 h2 hok ?_
    rintro cs o l k y hl hk hB ⟨b1, y1, y2, y3⟩
    refine ⟨_, _, _, hB.cell _ _ y1, OwnRow.rd (P := CompAt ok (RdL ok d w) w) y3 y2 (fun bl h1 h2 => hok bl (by omega) (by omega)) ?_⟩
    rintro cs o l' k' z hl' hk' hB ⟨z0, b2, z1, z2, z3⟩
    refine ⟨hB.cell _ _ z0, _, _, _, hB.cell _ _ z1, OwnRow.rd (P := SimpleAt (RdL ok d w) w) z3 z2 (fun bl h1 h2 => hok bl (by omega) (by omega)) ?_⟩
    rintro cs o l'' k'' s hl'' hk'' hB ⟨⟨s0, s1, s2, s3, s4, s5, s6, s7, s8, s9⟩, sok, b3, n3, s10, s11⟩
    exact ⟨⟨hB.cell _ _ s0, hB.cell _ _ s1, hB.cell _ _ s2, hB.cell _ _ s3, hB.cell _ _ s4, hB.cell _ _ s5, hB.cell _ _ s6, hB.cell _ _ s7, hB.cell _ _ s8, hB.cell _ _ s9⟩, _, _, _, hB.cell _ _ s10, OwnL.rd s11 (fun bl h1 h2 => hok bl (by omega) (by omega)), sok⟩
theorem OwnRow.mono {α : Type} {sz : Nat} {T : TypeId} {Q : List Value → Nat → Nat → Nat → α → Prop} {w : World} {lo hi lo' hi' b : Nat} {xs : List α} (h : OwnRow sz T Q w lo hi b xs) (h1 : lo' ≤ lo) (h2 : hi ≤ hi') : OwnRow sz T Q w lo' hi' b xs := by
  obtain ⟨cs, f, a1, a2, a3, a4, a5, a6, a7⟩ := h
  exact ⟨cs, f, a1, a2, Nat.le_trans h1 a3, a4, a5, Nat.le_trans a6 h2, a7⟩
theorem OwnL.mono {w : World} : ∀ {d : Nat} {lo hi lo' hi' b n : Nat} {x : Lx d}, OwnL d w lo hi b n x → lo' ≤ lo → hi ≤ hi' → OwnL d w lo' hi' b n x
  | 0, _, _, _, _, _, _, _, h, h1, h2 => ⟨h.1, Nat.le_trans h1 h.2.1, Nat.lt_of_lt_of_le h.2.2 h2⟩
  | d + 1, _, _, _, _, _, _, _, h, h1, h2 => ⟨h.1, h.2.1, OwnRow.mono h.2.2 h1 h2⟩
end Go.Proofs.Ytfgnepbpfglepaa
