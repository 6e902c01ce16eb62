/- Several texts of mine in one. -/
import Derived.Test.YtdopmkiogmejaaaDoorFA
import Derived.Test.YtdopmkiogmejaaaDoorCh2
import Derived.Test.YtdopmkiogmejaaaDoorRefChars
import Derived.Test.YtdopmkiogmejaaaDoorCh6
import Derived.Test.YtdopmkiogmejaaaDoorTl1Z
namespace Go.Proofs.YtdopmkiogmejaaaDoor
section
open Go.RowKit
set_option linter.unusedVariables false
set_option linter.unusedSimpArgs false

/-- Right characters, none a nought. -/
def Fine (l : List Int) : Prop := ∀ c ∈ l, rightB c = true ∧ c ≠ 0
theorem good_from : ∀ (n : Nat) (ys : List Int) (k : Nat), ys.length - k ≤ n → U8 ys → rightFrom ys k = true → ∃ cs : List Int, Fine cs ∧ ys.drop k = cs.flatMap putF
  | n, ys, k, h, hu, hr => by
    by_cases hl : ys.length ≤ k
    · exact ⟨[], (fun c hc => by cases hc), by rw [List.drop_eq_nil_of_le hl]; rfl⟩
    · rw [rightFrom_step ys k (by omega)] at hr
      by_cases hc : (readF (ys.drop k)).2.2 = true ∧ (readF (ys.drop k)).1 ≠ 0
      · rw [if_pos hc] at hr
        have hl1 : 1 ≤ (ys.drop k).length := by rw [List.length_drop]; omega
        obtain ⟨g1, g4, gl, g⟩ := read_spec (ys.drop k) (hu.drop k) hl1
        rcases g with ⟨_, gw, gc⟩ | ⟨go, _⟩
        · have hs : 1 ≤ sizeF (ys.drop k) := g1
          match n, h with
          | 0, h => omega
          | n + 1, h =>
            obtain ⟨cs, h1, h2⟩ := good_from n ys (k + sizeF (ys.drop k)) (by omega) hu hr
            unfold wholeF at gw
            rw [Bool.and_eq_true, decide_eq_true_iff, ← gc] at gw
            refine ⟨(readF (ys.drop k)).1 :: cs, fun c hm => ?_, ?_⟩
            · rcases List.mem_cons.1 hm with rfl | hm
              · exact ⟨gw.1, hc.2⟩
              · exact h1 c hm
            · rw [List.flatMap_cons, gw.2, ← h2, ← List.drop_drop]
              exact (List.take_append_drop _ _).symm
        · rw [hc.1] at go; cases go
      · rw [if_neg hc] at hr; cases hr
theorem good_list {ys : List Int} (hu : U8 ys) (hr : rightF ys = true) : ∃ cs, Fine cs ∧ ys = cs.flatMap putF ∧ rawF ys = cs := by
  obtain ⟨cs, h1, h2⟩ := good_from _ ys 0 (Nat.le_refl _) hu hr
  rw [List.drop_zero] at h2
  refine ⟨cs, h1, h2, ?_⟩
  have := rawF_all cs (fun c hc => (h1 c hc).1) [] (by intro z hz; simp at hz)
  rw [List.append_nil, rawF_nil, List.append_nil, ← h2] at this; exact this
theorem text_fine {l : List Int} (h : ∀ c ∈ l, rightB c = true) : textF l = l.flatMap putF := by
  unfold textF
  induction l with
  | nil => rfl
  | cons c l ih =>
    rw [List.flatMap_cons, List.flatMap_cons, ih (fun d hd => h d (List.mem_cons_of_mem _ hd))]
    congr 2
    unfold charOf; rw [if_pos (h c (List.mem_cons_self ..))]
theorem text_asc {l : List Int} (h : ∀ c ∈ l, 0 ≤ c ∧ c < 128) : textF l = l := by
  rw [text_fine (fun c hc => by have := h c hc; unfold rightB; exact decide_eq_true (by omega))]
  induction l with
  | nil => rfl
  | cons c l ih =>
    rw [List.flatMap_cons, ih (fun d hd => h d (List.mem_cons_of_mem _ hd))]
    have := h c (List.mem_cons_self ..)
    unfold putF; rw [if_pos this.2]; rfl
theorem bytes_fine {l : List Int} (h : Fine l) : bytesF l = l.flatMap putF := by
  unfold bytesF
  have e : l.map cleanF = l := by
    induction l with
    | nil => rfl
    | cons c l ih =>
      have hc := h c (List.mem_cons_self ..)
      rw [List.map_cons, ih (fun d hd => h d (List.mem_cons_of_mem _ hd))]
      congr 1
      unfold cleanF charOf; rw [if_neg hc.2, if_pos hc.1]
  rw [e]; exact text_fine (fun c hc => (h c hc).1)

/-- Characters that are as they are prepared. -/
def Clean (l : List Int) : Prop := ∀ c ∈ l, rightB c = true ∧ c ≠ 0 ∧ c ≠ 12 ∧ c ≠ 13
theorem prep_clean {l : List Int} (h : Clean l) : prepF l = l := by
  have key : ∀ k, k ≤ l.length → prepTo l k = l.take k := by
    intro k
    induction k with
    | zero => intro _; rfl
    | succ k ih =>
      intro hk
      rw [prepTo, ih (by omega)]
      have hc := h _ (List.getElem_mem (show k < l.length by omega))
      have e : l[k]?.getD 0 = l[k] := by rw [List.getElem?_eq_getElem (by omega)]; rfl
      rw [List.take_add_one, List.getElem?_eq_getElem (by omega)]
      congr 1
      rcases prep_cases l k with ⟨h1, _⟩ | ⟨h1, _⟩ | ⟨h1, _⟩ | ⟨h1, _⟩ | ⟨h1, _⟩ | ⟨_, _, _, hp⟩
      · rw [e] at h1; exact absurd h1 hc.2.2.2
      · rw [e] at h1; exact absurd h1 hc.2.2.2
      · rw [e] at h1; exact absurd h1 hc.2.2.2
      · rw [e] at h1; exact absurd h1 hc.2.2.1
      · rw [e] at h1; exact absurd h1 hc.2.1
      · rw [hp, e]; unfold charOf; rw [if_pos hc.1]; rfl
  have := key l.length (Nat.le_refl _)
  rw [List.take_length] at this; exact this
theorem chars_clean {l : List Int} (h : Clean l) (hm : l.head? ≠ some 65279) : charsF (textF l) = l := by
  rw [chars_text]
  have e : l.map charOf = l := by
    clear hm
    induction l with
    | nil => rfl
    | cons c l ih =>
      rw [List.map_cons, ih (fun d hd => h d (List.mem_cons_of_mem _ hd))]
      congr 1
      unfold charOf; rw [if_pos (h c (List.mem_cons_self ..)).1]
  rw [e]
  match l, hm with
  | [], _ => rfl
  | c :: l, hm => rw [dropMark, if_neg (fun e => hm (by rw [e]; rfl))]
theorem toks_clean {l : List Int} (h : Clean l) (hm : l.head? ≠ some 65279) : toksF (textF l) = allF l := by unfold toksF; rw [chars_clean h hm, prep_clean h]
theorem all_one {l : List Int} {t : Tk} (h : nextF l 0 = t) (hk : t.kind ≠ 0) (ht : t.to = l.length) (hl : l ≠ []) : allF l = [t, ⟨0, l.length, l.length, [], [], false⟩] := by
  have hp := List.length_pos_iff.2 hl
  unfold allF
  rw [allGo, h, if_neg hk, ht]
  obtain ⟨m, hm⟩ : ∃ m, l.length = m + 1 := ⟨l.length - 1, by omega⟩
  have he : nextF l l.length = ⟨0, l.length, l.length, [], [], false⟩ := by
    have hb : behindF l l.length = l.length := behindGo_stop _ (by unfold openB; rw [show isB l l.length 47 = false from by unfold isB; rw [chA_end l _ (Nat.le_refl _)]; decide]; rfl)
    unfold nextF; rw [hb]; exact tokAt_end (Nat.le_refl _)
  rw [show ∀ j acc, allGo l.length l j acc = allGo (m + 1) l j acc from fun j acc => by rw [← hm], allGo, he, if_pos rfl]
  rfl

/-! Places in lists. -/
theorem chA_mid (pre xs post : List Int) (i : Nat) (h : i < xs.length) : chA (pre ++ xs ++ post) (pre.length + i) = xs[i] := by
  unfold chA
  rw [List.append_assoc, List.getElem?_append_right (by omega), List.getElem?_append_left (by omega), show pre.length + i - pre.length = i by omega, List.getElem?_eq_getElem h]; rfl
theorem chA_mid0 (pre : List Int) (x : Int) (xs post : List Int) : chA (pre ++ (x :: xs) ++ post) pre.length = x := chA_mid pre (x :: xs) post 0 (by simp)

/-- Which characters are written by their numbers. -/
def HexC (c : Int) : Prop := (1 ≤ c ∧ c ≤ 31) ∨ c = 127 ∨ (48 ≤ c ∧ c ≤ 57) ∨ c = 65279
theorem hexF_ok {c : Int} (h : HexC c) : (hexF c).foldl (fun n d => 16 * n + hexV d) 0 = c ∧ (∀ d ∈ hexF c, 0 ≤ hexV d ∧ 48 ≤ d ∧ d ≤ 102) ∧ 1 ≤ (hexF c).length ∧ (hexF c).length ≤ 4 := by
  have key : ∀ n : Fin 128, ((hexF ((n.val : Nat) : Int)).foldl (fun n d => 16 * n + hexV d) 0 = ((n.val : Nat) : Int) ∧ (∀ d ∈ hexF ((n.val : Nat) : Int), 0 ≤ hexV d ∧ 48 ≤ d ∧ d ≤ 102) ∧ 1 ≤ (hexF ((n.val : Nat) : Int)).length ∧ (hexF ((n.val : Nat) : Int)).length ≤ 4) := by decide +kernel
  have k2 : (hexF 65279).foldl (fun n d => 16 * n + hexV d) 0 = 65279 ∧ (∀ d ∈ hexF 65279, 0 ≤ hexV d ∧ 48 ≤ d ∧ d ≤ 102) ∧ 1 ≤ (hexF 65279).length ∧ (hexF 65279).length ≤ 4 := by decide +kernel
  by_cases hc : c = 65279
  · subst hc; exact k2
  · have hb : 0 ≤ c ∧ c < 128 := by unfold HexC at h; omega
    have := key ⟨c.toNat, by omega⟩
    rw [show (((⟨c.toNat, by omega⟩ : Fin 128).val : Nat) : Int) = c from by show ((c.toNat : Nat) : Int) = c; omega] at this
    exact this
theorem hexGo_run (l : List Int) : ∀ (ds : List Int) (f i : Nat) (m : Int), (∀ k (h : k < ds.length), chA l (i + k) = ds[k]) → (∀ d ∈ ds, 0 ≤ hexV d) → ds.length ≤ f → hxB l (i + ds.length) = false →
    hexGo f l i m = (ds.foldl (fun n d => 16 * n + hexV d) m, i + ds.length)
  | [], f, i, m, _, _, _, h => hexGo_stop f (.inr h)
  | d :: ds, 0, i, m, _, _, h, _ => by simp at h
  | d :: ds, f + 1, i, m, hc, hd, hf, h => by
    have h0 : chA l i = d := hc 0 (by simp)
    have h1 := hd d (List.mem_cons_self ..)
    rw [hexGo, if_pos (show hxB l i = true from by unfold hxB; rw [h0]; exact decide_eq_true h1), h0]
    rw [List.length_cons] at h hf
    have := hexGo_run l ds f (i + 1) (16 * m + hexV d) (fun k hk => by
      have := hc (k + 1) (by simp; omega)
      rw [show i + 1 + k = i + (k + 1) by omega, this]; simp) (fun x hx => hd x (List.mem_cons_of_mem _ hx)) (by omega) (by rw [show i + 1 + ds.length = i + (ds.length + 1) by omega]; exact h)
    rw [this, List.foldl_cons, List.length_cons]
    congr 1
    omega

/-- How a character may be written with an escape. -/
def Escd (c : Int) (xs : List Int) : Prop := (xs = [92, c] ∧ hexV c < 0 ∧ c ≠ 10 ∧ c ≠ 0) ∨ (xs = 92 :: hexF c ++ [32] ∧ HexC c)
theorem escd_value {c : Int} {xs : List Int} (pre post : List Int) (h : Escd c xs) : chA (pre ++ xs ++ post) pre.length = 92 ∧ escB (pre ++ xs ++ post) pre.length = true ∧ valueF (pre ++ xs ++ post) pre.length = (c, pre.length + xs.length) := by
  rcases h with ⟨rfl, h1, h2, h3⟩ | ⟨rfl, h1⟩
  · have e0 : chA (pre ++ [92, c] ++ post) pre.length = 92 := chA_mid0 pre 92 [c] post
    have e1 : chA (pre ++ [92, c] ++ post) (pre.length + 1) = c := chA_mid pre [92, c] post 1 (by simp)
    have hl : ¬ (pre ++ [92, c] ++ post).length ≤ pre.length + 1 := by simp
    generalize pre ++ [92, c] ++ post = L at *
    refine ⟨e0, ?_, ?_⟩
    · unfold escB isB; rw [e0, e1]; simp [h2]
    · have hx : hexGo 6 L (pre.length + 1) 0 = (0, pre.length + 1) := hexGo_stop 6 (.inr (by unfold hxB; rw [e1]; exact decide_eq_false (by omega)))
      unfold valueF
      rw [if_neg hl, hx, if_pos rfl, e1]; rfl
  · obtain ⟨k1, k2, k3, k4⟩ := hexF_ok h1
    have hrc : cleanF c = c := by
      unfold HexC at h1
      unfold cleanF charOf
      rw [if_neg (by omega), if_pos (by unfold rightB; exact decide_eq_true (by omega))]
    have hL : (92 :: hexF c ++ [32]).length = (hexF c).length + 2 := by simp
    have e0 : chA (pre ++ (92 :: hexF c ++ [32]) ++ post) pre.length = 92 := by have := chA_mid0 pre 92 (hexF c ++ [32]) post; rwa [← List.cons_append] at this
    have eD : ∀ k (h : k < (hexF c).length), chA (pre ++ (92 :: hexF c ++ [32]) ++ post) (pre.length + 1 + k) = (hexF c)[k] := fun k hk => by
      rw [Nat.add_assoc, chA_mid pre (92 :: hexF c ++ [32]) post (1 + k) (by rw [hL]; omega)]
      have : (92 :: hexF c ++ [32])[1 + k]? = some (hexF c)[k] := by
        rw [show 1 + k = k + 1 by omega, List.cons_append, List.getElem?_cons_succ, List.getElem?_append_left hk, List.getElem?_eq_getElem hk]
      have h2 := List.getElem?_eq_getElem (l := 92 :: hexF c ++ [32]) (i := 1 + k) (by rw [hL]; omega)
      rw [h2] at this
      exact Option.some.inj this
    have eE : chA (pre ++ (92 :: hexF c ++ [32]) ++ post) (pre.length + 1 + (hexF c).length) = 32 := by
      rw [Nat.add_assoc, chA_mid pre (92 :: hexF c ++ [32]) post (1 + (hexF c).length) (by rw [hL]; omega)]
      have : (92 :: hexF c ++ [32])[1 + (hexF c).length]? = some 32 := by
        rw [show 1 + (hexF c).length = (hexF c).length + 1 by omega, List.cons_append, List.getElem?_cons_succ, List.getElem?_append_right (Nat.le_refl _), Nat.sub_self]; rfl
      have h2 := List.getElem?_eq_getElem (l := 92 :: hexF c ++ [32]) (i := 1 + (hexF c).length) (by rw [hL]; omega)
      rw [h2] at this
      exact Option.some.inj this
    have hl : ¬ (pre ++ (92 :: hexF c ++ [32]) ++ post).length ≤ pre.length + 1 := by simp <;> omega
    rw [hL]
    generalize pre ++ (92 :: hexF c ++ [32]) ++ post = L at *
    have hx := hexGo_run L (hexF c) 6 (pre.length + 1) 0 eD (fun d hd => (k2 d hd).1) (by omega) (by unfold hxB; rw [eE]; decide)
    rw [k1] at hx
    refine ⟨e0, ?_, ?_⟩
    · have h10 : chA L (pre.length + 1) ≠ 10 := by
        have := eD 0 (by omega)
        rw [Nat.add_zero] at this
        have hm := k2 _ (List.getElem_mem (show 0 < (hexF c).length by omega))
        rw [this]; omega
      unfold escB isB; rw [e0]; simp [h10]
    · unfold valueF
      rw [if_neg hl, hx, if_neg (show ¬ (pre.length + 1 + (hexF c).length = pre.length + 1) by omega), hrc]
      rw [if_pos (show spB L (pre.length + 1 + (hexF c).length) = true from by unfold spB; rw [eE]; decide)]
      show (c, pre.length + 1 + (hexF c).length + 1) = (c, pre.length + ((hexF c).length + 2))
      congr 1; omega

/-! Names. -/
theorem namesGo_fuel (l : List Int) : ∀ (f g j : Nat) (out : List Int), j ≤ l.length → l.length < j + f → l.length < j + g → namesGo f l j out = namesGo g l j out
  | f, g, j, out, hj, hf, hg => by
    obtain ⟨f, rfl⟩ : ∃ f', f = f' + 1 := ⟨f - 1, by omega⟩
    obtain ⟨g, rfl⟩ : ∃ g', g = g' + 1 := ⟨g - 1, by omega⟩
    rw [namesGo, namesGo]
    by_cases h1 : nmB l j = true
    · rw [if_pos h1, if_pos h1]
      have := lt_of_nmB h1
      exact namesGo_fuel l f g _ _ (by omega) (by omega) (by omega)
    · rw [if_neg h1, if_neg h1]
      by_cases h2 : escB l j = true
      · rw [if_pos h2, if_pos h2]
        have := valueF_bd (lt_of_escB h2)
        exact namesGo_fuel l f g _ _ (by omega) (by omega) (by omega)
      · rw [if_neg h2, if_neg h2]
def nmS (l : List Int) (j : Nat) (out : List Int) : List Int × Nat := namesGo (l.length + 1) l j out
theorem nmS_plain {l : List Int} {j : Nat} {out : List Int} (h : nmB l j = true) : nmS l j out = nmS l (j + 1) (out ++ [chA l j]) := by
  have := lt_of_nmB h
  unfold nmS
  rw [namesGo, if_pos h]
  exact namesGo_fuel l _ _ _ _ (by omega) (by omega) (by omega)
theorem nmS_esc {l : List Int} {j : Nat} {out : List Int} (h : nmB l j = false) (he : escB l j = true) : nmS l j out = nmS l (valueF l j).2 (out ++ [(valueF l j).1]) := by
  have hv := valueF_bd (lt_of_escB he)
  unfold nmS
  rw [namesGo, if_neg (by rw [h]; decide), if_pos he]
  exact namesGo_fuel l _ _ _ _ (by omega) (by omega) (by omega)
theorem nmS_end {l : List Int} {out : List Int} : nmS l l.length out = (out, l.length) := by
  unfold nmS
  rw [namesGo, if_neg (fun h => by have := lt_of_nmB h; omega), if_neg (fun h => by have := lt_of_escB h; omega)]
/-- How a name's character is written. -/
def EncN (c : Int) (xs : List Int) : Prop := (xs = [c] ∧ nameB c = true) ∨ Escd c xs
theorem names_run : ∀ (ps : List (Int × List Int)) (pre post out : List Int), (∀ p ∈ ps, EncN p.1 p.2) →
    nmS (pre ++ ps.flatMap (·.2) ++ post) pre.length out = nmS (pre ++ ps.flatMap (·.2) ++ post) (pre.length + (ps.flatMap (·.2)).length) (out ++ ps.map (·.1))
  | [], pre, post, out, _ => by simp
  | (c, xs) :: ps, pre, post, out, h => by
    have ih := names_run ps (pre ++ xs) post (out ++ [c]) (fun p hp => h p (List.mem_cons_of_mem _ hp))
    have e : pre ++ ((c, xs) :: ps).flatMap (·.2) ++ post = pre ++ xs ++ (ps.flatMap (·.2) ++ post) := by simp
    have e2 : pre ++ xs ++ ps.flatMap (·.2) ++ post = pre ++ xs ++ (ps.flatMap (·.2) ++ post) := by simp
    rw [e2] at ih
    rw [e]
    have hlen : pre.length + (((c, xs) :: ps).flatMap (·.2)).length = (pre ++ xs).length + (ps.flatMap (·.2)).length := by simp; omega
    have hout : out ++ ((c, xs) :: ps).map (·.1) = out ++ [c] ++ ps.map (·.1) := by simp
    rw [hlen, hout, ← ih, List.length_append]
    rcases h (c, xs) (List.mem_cons_self ..) with ⟨h1, h2⟩ | h1
    · have h1 : xs = [c] := h1
      subst h1
      have hc : chA (pre ++ [c] ++ (ps.flatMap (·.2) ++ post)) pre.length = c := chA_mid0 pre c [] _
      rw [nmS_plain (show nmB _ pre.length = true from by unfold nmB; rw [hc]; exact h2), hc]; rfl
    · obtain ⟨g1, g2, g3⟩ := escd_value pre (ps.flatMap (·.2) ++ post) h1
      rw [nmS_esc (by unfold nmB; rw [g1]; decide) g2, g3]

/-! Strings. -/
/-- How a string's character is written. -/
def EncQ (c : Int) (xs : List Int) : Prop := (xs = [c] ∧ c ≠ 34 ∧ c ≠ 10 ∧ c ≠ 92) ∨ Escd c xs
theorem quo_run : ∀ (ps : List (Int × List Int)) (pre post out : List Int), post ≠ [] → (∀ p ∈ ps, EncQ p.1 p.2) →
    quoF (pre ++ ps.flatMap (·.2) ++ post) 34 pre.length out = quoF (pre ++ ps.flatMap (·.2) ++ post) 34 (pre.length + (ps.flatMap (·.2)).length) (out ++ ps.map (·.1))
  | [], pre, post, out, _, _ => by simp
  | (c, xs) :: ps, pre, post, out, hp, h => by
    have ih := quo_run ps (pre ++ xs) post (out ++ [c]) hp (fun p hp => h p (List.mem_cons_of_mem _ hp))
    have e : pre ++ ((c, xs) :: ps).flatMap (·.2) ++ post = pre ++ xs ++ (ps.flatMap (·.2) ++ post) := by simp
    have e2 : pre ++ xs ++ ps.flatMap (·.2) ++ post = pre ++ xs ++ (ps.flatMap (·.2) ++ post) := by simp
    rw [e2] at ih
    rw [e]
    have hlen : pre.length + (((c, xs) :: ps).flatMap (·.2)).length = (pre ++ xs).length + (ps.flatMap (·.2)).length := by simp; omega
    have hout : out ++ ((c, xs) :: ps).map (·.1) = out ++ [c] ++ ps.map (·.1) := by simp
    have hpp := List.length_pos_iff.2 hp
    rw [hlen, hout, ← ih, List.length_append]
    rcases h (c, xs) (List.mem_cons_self ..) with ⟨h1, h2, h3, h4⟩ | h1
    · have h1 : xs = [c] := h1
      subst h1
      have hc : chA (pre ++ [c] ++ (ps.flatMap (·.2) ++ post)) pre.length = c := chA_mid0 pre c [] _
      rw [quoF_char (by simp <;> omega) (decide_eq_false (by rw [hc]; exact h2)) (decide_eq_false (by rw [hc]; exact h3)) (decide_eq_false (by rw [hc]; exact h4)), hc]; rfl
    · obtain ⟨g1, g2, g3⟩ := escd_value pre (ps.flatMap (·.2) ++ post) h1
      have hx : 2 ≤ xs.length := by rcases h1 with ⟨h, _⟩ | ⟨h, _⟩ <;> (have h : xs = _ := h; rw [h]; simp)
      have h10 : isB (pre ++ xs ++ (ps.flatMap (·.2) ++ post)) (pre.length + 1) 10 = false := by unfold escB at g2; rw [Bool.and_eq_true, Bool.not_eq_true'] at g2; exact g2.2
      rw [quoF_esc (by simp; omega) (decide_eq_false (by rw [g1]; decide)) (decide_eq_false (by rw [g1]; decide)) (decide_eq_true g1) h10, g3]

/-- All that was written. -/
def fl (ps : List (Int × List Int)) : List Int := ps.flatMap (·.2)
theorem fl_append (a b : List (Int × List Int)) : fl (a ++ b) = fl a ++ fl b := List.flatMap_append
theorem fl_cons (c : Int) (xs : List Int) (ps : List (Int × List Int)) : fl ((c, xs) :: ps) = xs ++ fl ps := List.flatMap_cons
theorem fl_one (c : Int) (xs : List Int) : fl [(c, xs)] = xs := by rw [fl_cons]; exact List.append_nil _
theorem names_fl (ps : List (Int × List Int)) (pre post out : List Int) (h : ∀ p ∈ ps, EncN p.1 p.2) : nmS (pre ++ fl ps ++ post) pre.length out = nmS (pre ++ fl ps ++ post) (pre.length + (fl ps).length) (out ++ ps.map (·.1)) := names_run ps pre post out h
theorem quo_fl (ps : List (Int × List Int)) (pre post out : List Int) (hp : post ≠ []) (h : ∀ p ∈ ps, EncQ p.1 p.2) : quoF (pre ++ fl ps ++ post) 34 pre.length out = quoF (pre ++ fl ps ++ post) 34 (pre.length + (fl ps).length) (out ++ ps.map (·.1)) := quo_run ps pre post out hp h
end

section
open Go.RowKit
set_option linter.unusedVariables false
set_option linter.unusedSimpArgs false

theorem textF_append (a b : List Int) : textF (a ++ b) = textF a ++ textF b := by unfold textF; rw [List.flatMap_append]
theorem textF_one {c : Int} (h : rightB c = true) : textF [c] = putF c := by unfold textF; rw [List.flatMap_cons, List.flatMap_nil, List.append_nil]; unfold charOf; rw [if_pos h]
theorem ctl_hexc {c : Int} (h : controlB c = true) : HexC c := by unfold controlB at h; rw [decide_eq_true_iff] at h; unfold HexC; omega
theorem esc_text {c : Int} (h : HexC c) : textF (92 :: hexF c ++ [32]) = escF c := by
  have hk := (hexF_ok h).2.1
  rw [text_asc]
  · rfl
  · intro z hz
    rcases List.mem_append.1 hz with hz | hz
    · rcases List.mem_cons.1 hz with rfl | hz
      · decide
      · have := hk z hz; omega
    · rw [List.mem_singleton.1 hz]; decide
theorem bs_text {c : Int} (h : rightB c = true) : textF [92, c] = 92 :: putF c := by
  rw [show [92, c] = [92] ++ [c] from rfl, textF_append, textF_one h, textF_one (by decide)]; rfl
theorem hexc_clean {c : Int} (h : HexC c) : Clean (92 :: hexF c ++ [32]) := by
  have hk := (hexF_ok h).2.1
  intro z hz
  rcases List.mem_append.1 hz with hz | hz
  · rcases List.mem_cons.1 hz with rfl | hz
    · decide
    · have := hk z hz; exact ⟨decide_eq_true (by omega), by omega, by omega, by omega⟩
  · rw [List.mem_singleton.1 hz]; decide
theorem Clean.app {a b : List Int} (ha : Clean a) (hb : Clean b) : Clean (a ++ b) := fun z hz => (List.mem_append.1 hz).elim (ha z) (hb z)
theorem clean_one {c : Int} (h : rightB c = true ∧ c ≠ 0 ∧ c ≠ 12 ∧ c ≠ 13) : Clean [c] := fun z hz => by rw [List.mem_singleton.1 hz]; exact h
theorem nctl {c : Int} (h : ¬ controlB c = true) (h0 : c ≠ 0) (hr : rightB c = true) : 32 ≤ c ∧ c ≠ 127 := by
  have h2 := (right_ch hr).1
  unfold controlB at h; rw [decide_eq_true_iff] at h; omega

/-- A string's character as it is written. -/
def qItem (c : Int) : List Int := if controlB c = true then 92 :: hexF c ++ [32] else if c = 34 ∨ c = 92 then [92, c] else [c]
theorem qItem_text {c : Int} (h : rightB c = true) (h0 : c ≠ 0) : outQ c = textF (qItem c) := by
  unfold outQ qItem
  rw [if_neg h0]
  by_cases h1 : controlB c = true
  · rw [if_pos h1, if_pos h1, esc_text (ctl_hexc h1)]
  · rw [if_neg h1, if_neg h1]
    by_cases h2 : c = 34 ∨ c = 92
    · rw [if_pos h2, if_pos h2, bs_text h]
    · rw [if_neg h2, if_neg h2, textF_one h]
theorem qItem_enc {c : Int} (h : rightB c = true) (h0 : c ≠ 0) : EncQ c (qItem c) ∧ Clean (qItem c) := by
  unfold qItem
  by_cases h1 : controlB c = true
  · rw [if_pos h1]; exact ⟨.inr (.inr ⟨rfl, ctl_hexc h1⟩), hexc_clean (ctl_hexc h1)⟩
  · rw [if_neg h1]
    obtain ⟨n1, n2⟩ := nctl h1 h0 h
    by_cases h2 : c = 34 ∨ c = 92
    · rw [if_pos h2]
      refine ⟨.inr (.inl ⟨rfl, ?_, by omega, h0⟩), fun z hz => ?_⟩
      · rcases h2 with rfl | rfl <;> decide
      · rcases List.mem_cons.1 hz with rfl | hz
        · decide
        · rw [List.mem_singleton.1 hz]; exact ⟨h, h0, by omega, by omega⟩
    · rw [if_neg h2]
      exact ⟨.inl ⟨rfl, by omega, by omega, by omega⟩, fun z hz => by rw [List.mem_singleton.1 hz]; exact ⟨h, h0, by omega, by omega⟩⟩
def qPs (l : List Int) : List (Int × List Int) := l.map fun c => (c, qItem c)
theorem qPs_fst (l : List Int) : (qPs l).map (·.1) = l := by unfold qPs; rw [List.map_map]; exact List.map_id _
theorem flat_clean {ps : List (Int × List Int)} (h : ∀ p ∈ ps, Clean p.2) : Clean (fl ps) := fun z hz => by
  obtain ⟨p, hp, hz⟩ := List.mem_flatMap.1 hz
  exact h p hp z hz
theorem quote_text {l : List Int} (h : Fine l) : quoteF l = textF ([34] ++ fl (qPs l) ++ [34]) := by
  have key : ∀ k, k ≤ l.length → quoteTo l k = textF ([34] ++ fl (qPs (l.take k))) := by
    intro k
    induction k with
    | zero => intro _; rw [List.take_zero]; show [34] = textF ([34] ++ []); decide
    | succ k ih =>
      intro hk
      have hc := h _ (List.getElem_mem (show k < l.length by omega))
      rw [quoteTo, ih (by omega), List.getElem?_eq_getElem (by omega), List.take_add_one, List.getElem?_eq_getElem (by omega)]
      show _ ++ outQ l[k] = _
      rw [qItem_text hc.1 hc.2, ← textF_append]
      congr 1
      unfold qPs
      rw [List.map_append, fl_append, List.append_assoc]
      congr 2
      show _ = fl [(l[k], qItem l[k])]
      rw [fl_one]
  unfold quoteF
  rw [key _ (Nat.le_refl _), List.take_length, textF_append ([34] ++ _)]
  rfl
theorem toks_quote {l : List Int} (h : Fine l) : ∃ N, toksF (quoteF l) = [⟨5, 0, N, l.flatMap putF, [], false⟩, ⟨0, N, N, [], [], false⟩] := by
  have hps : ∀ p ∈ qPs l, EncQ p.1 p.2 ∧ Clean p.2 := fun p hp => by
    obtain ⟨c, hc, rfl⟩ := List.mem_map.1 hp
    exact qItem_enc (h c hc).1 (h c hc).2
  have hcl : Clean ([34] ++ fl (qPs l) ++ [34]) := Clean.app (Clean.app (clean_one (by decide)) (flat_clean fun p hp => (hps p hp).2)) (clean_one (by decide))
  rw [quote_text h, toks_clean hcl (by simp)]
  have hr := quo_fl (qPs l) [34] [34] [] (by simp) (fun p hp => (hps p hp).1)
  rw [qPs_fst, List.nil_append] at hr
  have hm := chA_mid0 ([34] ++ fl (qPs l)) 34 [] []
  rw [List.append_nil] at hm
  have h0 : chA ([34] ++ fl (qPs l) ++ [34]) 0 = 34 := by rw [List.append_assoc]; rfl
  have hlen : ([34] ++ fl (qPs l) ++ [34]).length = ([34] ++ fl (qPs l)).length + 1 := by simp
  rw [show ([34] : List Int).length + (fl (qPs l)).length = ([34] ++ fl (qPs l)).length by rw [List.length_append]] at hr
  have hne : ([34] ++ fl (qPs l) ++ [34] : List Int) ≠ [] := by simp
  generalize ([34] ++ fl (qPs l)).length = m at *
  generalize [34] ++ fl (qPs l) ++ [34] = L at *
  rw [quoF_mark (by omega) (decide_eq_true hm)] at hr
  have hb : behindF L 0 = 0 := behindGo_stop _ (by unfold openB isB; rw [h0]; rfl)
  refine ⟨L.length, all_one ?_ (by intro e; cases e) rfl hne⟩
  unfold nextF tokAt
  rw [hb, if_neg (by omega), if_neg (by unfold spB; rw [h0]; decide), if_pos (by unfold isB; rw [h0]; rfl)]
  show quotedGo (L.length + 1) L (chA L 0) 0 1 [] = _
  rw [h0]
  show quoF L 34 1 [] = _
  rw [show (1 : Nat) = ([34] : List Int).length from rfl, hr, bytes_fine h, hlen]

/-- A name's character as it is written. -/
def iItem (l : List Int) (i : Nat) (c : Int) : List Int :=
  if (controlB c || decide (c = 65279) || (digitB c && firstB l i)) = true then 92 :: hexF c ++ [32] else if (!nameB c || (decide (c = 45) && decide (l.length = 1))) = true then [92, c] else [c]
theorem ihexc {l : List Int} {i : Nat} {c : Int} (h : (controlB c || decide (c = 65279) || (digitB c && firstB l i)) = true) : HexC c := by
  rw [Bool.or_eq_true, Bool.or_eq_true, Bool.and_eq_true, decide_eq_true_iff] at h
  rcases h with (h | h) | h
  · exact ctl_hexc h
  · unfold HexC; omega
  · have := h.1; unfold digitB at this; rw [decide_eq_true_iff] at this; unfold HexC; omega
theorem iItem_text {l : List Int} {i : Nat} {c : Int} (h : rightB c = true) (h0 : c ≠ 0) : outI l i c = textF (iItem l i c) := by
  unfold outI iItem
  rw [if_neg h0]
  by_cases h1 : (controlB c || decide (c = 65279) || (digitB c && firstB l i)) = true
  · rw [if_pos h1, if_pos h1, esc_text (ihexc h1)]
  · rw [if_neg h1, if_neg h1]
    by_cases h2 : (!nameB c || (decide (c = 45) && decide (l.length = 1))) = true
    · rw [if_pos h2, if_pos h2, bs_text h]
    · rw [if_neg h2, if_neg h2, textF_one h]
/-- How a name's character is written, by its place. -/
def EncI (l : List Int) (i : Nat) (c : Int) (xs : List Int) : Prop := (xs = [c] ∧ nameB c = true ∧ (digitB c && firstB l i) = false ∧ ¬ (c = 45 ∧ l.length = 1) ∧ c ≠ 65279) ∨ Escd c xs
theorem EncI.enc {l : List Int} {i : Nat} {c : Int} {xs : List Int} (h : EncI l i c xs) : EncN c xs := by
  rcases h with h | h
  · exact .inl ⟨h.1, h.2.1⟩
  · exact .inr h
theorem name_not_hex {c : Int} (h : nameB c = false) : hexV c < 0 := by
  unfold nameB startB digitB at h
  simp only [Bool.or_eq_false_iff, decide_eq_false_iff_not] at h
  unfold hexV
  generalize smallF c = x at *
  split
  · omega
  · split
    · omega
    · omega
theorem iItem_enc {l : List Int} {i : Nat} {c : Int} (h : rightB c = true) (h0 : c ≠ 0) : EncI l i c (iItem l i c) ∧ Clean (iItem l i c) := by
  unfold iItem
  by_cases h1 : (controlB c || decide (c = 65279) || (digitB c && firstB l i)) = true
  · rw [if_pos h1]; exact ⟨.inr (.inr ⟨rfl, ihexc h1⟩), hexc_clean (ihexc h1)⟩
  · rw [if_neg h1]
    have h1' : (controlB c || decide (c = 65279) || (digitB c && firstB l i)) = false := by simpa using h1
    rw [Bool.or_eq_false_iff, Bool.or_eq_false_iff, decide_eq_false_iff_not] at h1'
    obtain ⟨⟨a1, a2⟩, a3⟩ := h1'
    obtain ⟨n1, n2⟩ := nctl (by rw [a1]; decide) h0 h
    by_cases h2 : (!nameB c || (decide (c = 45) && decide (l.length = 1))) = true
    · rw [if_pos h2]
      refine ⟨.inr (.inl ⟨rfl, ?_, by omega, h0⟩), fun z hz => ?_⟩
      · rw [Bool.or_eq_true, Bool.not_eq_true', Bool.and_eq_true, decide_eq_true_iff] at h2
        rcases h2 with h2 | h2
        · exact name_not_hex h2
        · rw [h2.1]; decide
      · rcases List.mem_cons.1 hz with rfl | hz
        · decide
        · rw [List.mem_singleton.1 hz]; exact ⟨h, h0, by omega, by omega⟩
    · rw [if_neg h2]
      have h2' : (!nameB c || (decide (c = 45) && decide (l.length = 1))) = false := by simpa using h2
      rw [Bool.or_eq_false_iff, Bool.not_eq_false'] at h2'
      refine ⟨.inl ⟨rfl, h2'.1, a3, ?_, a2⟩, fun z hz => by rw [List.mem_singleton.1 hz]; exact ⟨h, h0, by omega, by omega⟩⟩
      rintro ⟨b1, b2⟩
      rw [b1, b2] at h2'
      exact absurd h2'.2 (by decide)
def iPs (l : List Int) : List (Int × List Int) := (List.range l.length).map fun i => (l[i]?.getD 0, iItem l i (l[i]?.getD 0))
theorem iPs_at {l : List Int} {i : Nat} (h : i < l.length) : (iPs l)[i]? = some (l[i]?.getD 0, iItem l i (l[i]?.getD 0)) := by
  unfold iPs; rw [List.getElem?_map, List.getElem?_range h]; rfl
theorem iPs_len (l : List Int) : (iPs l).length = l.length := by unfold iPs; rw [List.length_map, List.length_range]
theorem iPs_fst (l : List Int) : (iPs l).map (·.1) = l := by
  refine List.ext_getElem? fun i => ?_
  rw [List.getElem?_map]
  by_cases h : i < l.length
  · rw [iPs_at h, List.getElem?_eq_getElem h]; rfl
  · rw [List.getElem?_eq_none (by rw [iPs_len]; omega), List.getElem?_eq_none (by omega)]; rfl
theorem iPs_mem {l : List Int} (h : Fine l) : ∀ p ∈ iPs l, ∃ i, i < l.length ∧ EncI l i p.1 p.2 ∧ Clean p.2 := fun p hp => by
  unfold iPs at hp
  obtain ⟨i, hi, rfl⟩ := List.mem_map.1 hp
  have hi := List.mem_range.1 hi
  have hc := h _ (List.getElem_mem hi)
  have e : l[i]?.getD 0 = l[i] := by rw [List.getElem?_eq_getElem hi]; rfl
  refine ⟨i, hi, ?_⟩
  rw [e]; exact iItem_enc hc.1 hc.2
theorem ident_text {l : List Int} (h : Fine l) : identF l = textF (fl (iPs l)) := by
  have key : ∀ k, k ≤ l.length → identTo l k = textF (fl ((List.range k).map fun i => (l[i]?.getD 0, iItem l i (l[i]?.getD 0)))) := by
    intro k
    induction k with
    | zero => intro _; rfl
    | succ k ih =>
      intro hk
      have hc := h _ (List.getElem_mem (show k < l.length by omega))
      have e : l[k]?.getD 0 = l[k] := by rw [List.getElem?_eq_getElem (by omega)]; rfl
      rw [identTo, ih (by omega), List.range_succ, List.map_append, fl_append, textF_append]
      congr 1
      rw [List.map_cons, List.map_nil, fl_one, e, iItem_text hc.1 hc.2]
  exact key _ (Nat.le_refl _)

/-- What a name that was written begins with. -/
structure Begins (L : List Int) (j : Nat) : Prop where
  name : nameAt L j = true
  first : chA L j = 45 ∨ chA L j = 92 ∨ startB (chA L j) = true
  nonum : chA L j = 45 → dgB L (j + 1) = false ∧ isB L (j + 1) 46 = false
  nocdc : chA L j = 45 → isB L (j + 1) 45 = true → isB L (j + 2) 62 = false
  some : nmB L j || escB L j = true
  nomark : chA L j ≠ 65279
theorem chA_head (pre ys : List Int) : chA (pre ++ ys) pre.length = ys.head?.getD 0 := by
  unfold chA
  rw [List.getElem?_append_right (Nat.le_refl _), Nat.sub_self, List.head?_eq_getElem?]
theorem flat_head {ps : List (Int × List Int)} {post : List Int} (h : ∀ p ∈ ps, EncN p.1 p.2) (hp : post.head?.getD 0 ≠ 62) : (fl ps ++ post).head?.getD 0 ≠ 62 := by
  match ps, h with
  | [], _ => simpa [fl] using hp
  | (c, xs) :: ps, h =>
    rcases h (c, xs) (List.mem_cons_self ..) with ⟨h1, h2⟩ | ⟨h1, _⟩ | ⟨h1, _⟩
    · have h1 : xs = [c] := h1
      subst h1
      intro e
      rw [fl_cons] at e
      have : c = 62 := by simpa using e
      rw [this] at h2; exact absurd h2 (by decide)
    · have h1 : xs = [92, c] := h1
      subst h1; rw [fl_cons]; simp
    · have h1 : xs = 92 :: hexF c ++ [32] := h1
      subst h1; rw [fl_cons]; simp
theorem begins_ident {l : List Int} (h : Fine l) (hl : l ≠ []) (pre post : List Int) (hp : post.head?.getD 0 ≠ 62) : Begins (pre ++ fl (iPs l) ++ post) pre.length := by
  have hpos := List.length_pos_iff.2 hl
  have hmem := iPs_mem h
  obtain ⟨p0, ps, hps⟩ := List.exists_cons_of_ne_nil (l := iPs l) (by intro e; have := iPs_len l; rw [e] at this; simp at this; omega)
  have h0 := iPs_at hpos
  rw [hps] at h0
  simp only [List.getElem?_cons_zero, Option.some.injEq] at h0
  have hf0 := h _ (List.getElem_mem hpos)
  have e0 : l[0]?.getD 0 = l[0] := by rw [List.getElem?_eq_getElem hpos]; rfl
  have hE0 := (iItem_enc (l := l) (i := 0) hf0.1 hf0.2).1
  rw [e0] at h0
  have hlen := iPs_len l
  rw [hps] at hlen hmem
  generalize hc0 : l[0] = c0 at *
  subst h0
  have eL : pre ++ fl (iPs l) ++ post = pre ++ iItem l 0 c0 ++ (fl ps ++ post) := by rw [hps, fl_cons]; simp
  rw [eL]
  rcases hE0 with ⟨hx, hn, hd, hs, hmk⟩ | hx
  · rw [hx]
    have hc := chA_mid0 pre c0 [] (fl ps ++ post)
    have hdig : digitB c0 = false := by
      rw [show firstB l 0 = true from by unfold firstB; simp, Bool.and_true] at hd; exact hd
    by_cases h45 : c0 = 45
    · subst h45
      have hl2 : 2 ≤ l.length := by
        rcases Nat.lt_or_ge 1 l.length with h1 | h1
        · exact h1
        · exact absurd ⟨rfl, by omega⟩ hs
      obtain ⟨p1, ps', hps'⟩ := List.exists_cons_of_ne_nil (l := ps) (by intro e; rw [e] at hlen; simp at hlen; omega)
      have h1 := iPs_at (l := l) (i := 1) (by omega)
      rw [hps, hps'] at h1
      simp only [List.getElem?_cons_succ, List.getElem?_cons_zero, Option.some.injEq] at h1
      have hf1 := h _ (List.getElem_mem (show 1 < l.length by omega))
      have e1 : l[1]?.getD 0 = l[1] := by rw [List.getElem?_eq_getElem (by omega)]; rfl
      have hE1 := (iItem_enc (l := l) (i := 1) hf1.1 hf1.2).1
      have hfirst : firstB l 1 = true := by unfold firstB; rw [e0]; decide
      rw [e1] at h1
      generalize l[1] = c1 at *
      subst h1
      have eL2 : pre ++ [45] ++ (fl ps ++ post) = (pre ++ [45]) ++ iItem l 1 c1 ++ (fl ps' ++ post) := by rw [hps', fl_cons]; simp
      have hpl : (pre ++ [45]).length = pre.length + 1 := by simp
      have hpsN : ∀ p ∈ ps', EncN p.1 p.2 := fun p hp => by
        obtain ⟨i, _, h1, _⟩ := hmem p (by rw [hps']; simp [hp])
        exact h1.enc
      rcases hE1 with ⟨hx1, hn1, hd1, _, _⟩ | hx1
      · have hc1 := chA_mid0 (pre ++ [45]) c1 [] (fl ps' ++ post)
        rw [hpl] at hc1
        rw [hx1] at eL2
        have hc2 := chA_head (pre ++ [45] ++ [c1] : List Int) (fl ps' ++ post)
        rw [show (pre ++ [45] ++ [c1] : List Int).length = pre.length + 2 by simp] at hc2
        rw [← eL2] at hc1 hc2
        have hd1' : digitB c1 = false := by rw [hfirst, Bool.and_true] at hd1; exact hd1
        have h62 := flat_head hpsN hp
        rw [← hc2] at h62
        generalize pre ++ [45] ++ (fl ps ++ post) = L at *
        have hb0 : isB L pre.length 45 = true := decide_eq_true hc
        have hn1' : isB L (pre.length + 1) 45 = true ∨ stB L (pre.length + 1) = true := by
          unfold isB stB; rw [hc1]
          unfold nameB at hn1
          rw [hd1', Bool.or_false, Bool.or_eq_true, decide_eq_true_iff] at hn1
          rcases hn1 with h | h
          · exact .inr h
          · exact .inl (decide_eq_true h)
        refine ⟨?_, .inl hc, fun _ => ⟨by unfold dgB; rw [hc1]; exact hd1', ?_⟩, fun _ _ => decide_eq_false h62, ?_, by rw [hc]; decide⟩
        · unfold nameAt
          rw [if_pos hb0]
          rcases hn1' with h | h <;> rw [h] <;> simp
        · unfold isB; rw [hc1]
          refine decide_eq_false fun e => ?_
          rw [e] at hn1; exact absurd hn1 (by decide)
        · have : nmB L pre.length = true := by unfold nmB; rw [hc]; decide
          rw [this]; rfl
      · obtain ⟨g1, g2, _⟩ := escd_value (pre ++ [45]) (fl ps' ++ post) hx1
        rw [hpl, ← eL2] at g1 g2
        generalize pre ++ [45] ++ (fl ps ++ post) = L at *
        have hb0 : isB L pre.length 45 = true := decide_eq_true hc
        refine ⟨?_, .inl hc, fun _ => ⟨by unfold dgB; rw [g1]; decide, by unfold isB; rw [g1]; decide⟩, fun _ h => absurd h (by unfold isB; rw [g1]; decide), ?_, by rw [hc]; decide⟩
        · unfold nameAt; rw [if_pos hb0, g2]; simp
        · have : nmB L pre.length = true := by unfold nmB; rw [hc]; decide
          rw [this]; rfl
    · have hst : startB c0 = true := by
        unfold nameB at hn
        rw [hdig, Bool.or_false, Bool.or_eq_true, decide_eq_true_iff] at hn
        rcases hn with h | h
        · exact h
        · exact absurd h h45
      generalize pre ++ [c0] ++ (fl ps ++ post) = L at *
      refine ⟨?_, .inr (.inr (by rw [hc]; exact hst)), fun e => absurd (hc.symm.trans e) h45, fun e => absurd (hc.symm.trans e) h45, ?_, by rw [hc]; exact hmk⟩
      · unfold nameAt
        rw [if_neg (by unfold isB; rw [hc]; simpa using h45)]
        have : stB L pre.length = true := by unfold stB; rw [hc]; exact hst
        rw [this]; rfl
      · have : nmB L pre.length = true := by unfold nmB; rw [hc]; exact hn
        rw [this]; rfl
  · obtain ⟨g1, g2, _⟩ := escd_value pre (fl ps ++ post) hx
    generalize pre ++ iItem l 0 c0 ++ (fl ps ++ post) = L at *
    refine ⟨?_, .inr (.inl g1), fun e => ?_, fun e => ?_, by rw [g2]; simp, by rw [g1]; decide⟩
    · unfold nameAt
      rw [if_neg (by unfold isB; rw [g1]; decide), g2]; simp
    · rw [g1] at e; exact absurd e (by decide)
    · rw [g1] at e; exact absurd e (by decide)

theorem iclean {l : List Int} (h : Fine l) : Clean (fl (iPs l)) := flat_clean fun p hp => by obtain ⟨_, _, _, h⟩ := iPs_mem h p hp; exact h
/-- The tokens of # and a name. -/
theorem toks_hash {l : List Int} (h : Fine l) (hl : l ≠ []) : ∃ N, toksF (35 :: identF l) = [⟨4, 0, N, l.flatMap putF, [], true⟩, ⟨0, N, N, [], [], false⟩] := by
  have hcl : Clean ([35] ++ fl (iPs l)) := Clean.app (clean_one (by decide)) (iclean h)
  have e : 35 :: identF l = textF ([35] ++ fl (iPs l)) := by rw [textF_append, ident_text h]; rfl
  rw [e, toks_clean hcl (by simp)]
  have hb := begins_ident h hl [35] [] (by decide)
  have hr := names_fl (iPs l) [35] [] [] (fun p hp => by obtain ⟨_, _, h, _⟩ := iPs_mem h p hp; exact h.enc)
  rw [iPs_fst, List.nil_append] at hr
  rw [List.append_nil] at hb hr
  have h0 : chA ([35] ++ fl (iPs l)) 0 = 35 := rfl
  have hlen : ([35] ++ fl (iPs l) : List Int).length = ([35] : List Int).length + (fl (iPs l)).length := by rw [List.length_append]
  rw [← hlen] at hr
  have hne : ([35] ++ fl (iPs l) : List Int) ≠ [] := by simp
  generalize [35] ++ fl (iPs l) = L at *
  rw [nmS_end] at hr
  have hN : namesF L 1 = (l, L.length) := hr
  have hbh : behindF L 0 = 0 := behindGo_stop _ (by unfold openB isB; rw [h0]; rfl)
  have hpos := List.length_pos_iff.2 hne
  refine ⟨L.length, all_one ?_ (by intro e; cases e) rfl hne⟩
  have n1 : nameAt L 0 = false := by unfold nameAt; rw [if_neg (by unfold isB; rw [h0]; decide)]; unfold stB escB isB; rw [h0]; rfl
  have n2 : numAt L 0 = false := by unfold numAt signAt; rw [if_neg (by unfold isB; rw [h0]; decide)]; unfold fracAt dgB isB; rw [h0]; rfl
  unfold nextF tokAt
  rw [hbh, if_neg (by omega), if_neg (by unfold spB; rw [h0]; decide), if_neg (by unfold isB; rw [h0]; decide), if_neg (by rw [n2]; decide), if_neg (by unfold cdcB isB; rw [h0]; simp), if_neg (by rw [n1]; decide),
    if_neg (by unfold cdoB isB; rw [h0]; simp), if_neg (by unfold atSgB isB; rw [h0]; simp), if_pos (by unfold hashB isB; rw [h0]; simpa using hb.some), hN]
  show (⟨4, 0, L.length, bytesF l, [], nameAt L 1⟩ : Tk) = _
  rw [bytes_fine h, show nameAt L 1 = true from hb.name]
/-- The tokens of a name and a letter. -/
theorem toks_ident {l : List Int} (h : Fine l) (hl : l ≠ []) : ∃ N, toksF (identF l ++ [120]) = [⟨1, 0, N, l.flatMap putF ++ [120], [], false⟩, ⟨0, N, N, [], [], false⟩] := by
  have hcl : Clean (fl (iPs l) ++ [120]) := Clean.app (iclean h) (clean_one (by decide))
  have e : identF l ++ [120] = textF (fl (iPs l) ++ [120]) := by rw [textF_append, ident_text h]; rfl
  have hb := begins_ident h hl [] [120] (by decide)
  have hr := names_fl (iPs l ++ [(120, [120])]) [] [] [] (fun p hp => by
    rcases List.mem_append.1 hp with hp | hp
    · obtain ⟨_, _, h, _⟩ := iPs_mem h p hp; exact h.enc
    · rw [List.mem_singleton.1 hp]; exact .inl ⟨rfl, by decide⟩)
  rw [List.map_append, iPs_fst, List.nil_append, fl_append, fl_one, List.append_nil, List.nil_append] at hr
  simp only [List.length_nil, Nat.zero_add, List.map_cons, List.map_nil] at hr
  rw [List.nil_append] at hb
  have hf := hb.first
  have hm : (fl (iPs l) ++ [120] : List Int).head? ≠ some 65279 := by
    intro e
    refine hb.nomark ?_
    have := chA_head [] (fl (iPs l) ++ [120])
    rw [e] at this; exact this
  rw [e, toks_clean hcl hm]
  have hne : (fl (iPs l) ++ [120] : List Int) ≠ [] := by simp
  have hfine : Fine (l ++ [120]) := fun c hc => (List.mem_append.1 hc).elim (h c) (fun hc => by rw [List.mem_singleton.1 hc]; decide)
  have hft : (l ++ [120]).flatMap putF = l.flatMap putF ++ [120] := by rw [List.flatMap_append]; rfl
  generalize fl (iPs l) ++ [120] = L at *
  rw [nmS_end] at hr
  have hN : namesF L 0 = (l ++ [120], L.length) := hr
  have hpos := List.length_pos_iff.2 hne
  have hb0 : Begins L 0 := hb
  have hs : ∀ c, startB c = true → c ≠ 47 ∧ c ≠ 34 ∧ c ≠ 39 ∧ c ≠ 32 ∧ c ≠ 9 ∧ c ≠ 10 ∧ c ≠ 43 ∧ c ≠ 46 ∧ digitB c = false ∧ c ≠ 45 := fun c hc => by
    refine ⟨?_, ?_, ?_, ?_, ?_, ?_, ?_, ?_, ?_, ?_⟩
    all_goals first
      | (rintro rfl; exact absurd hc (by decide))
      | (unfold startB smallF at hc; unfold digitB; simp only [decide_eq_true_eq] at hc; exact decide_eq_false (by split at hc <;> omega))
  have hx : chA L 0 ≠ 47 ∧ chA L 0 ≠ 34 ∧ chA L 0 ≠ 39 ∧ spB L 0 = false ∧ chA L 0 ≠ 43 ∧ chA L 0 ≠ 46 ∧ dgB L 0 = false := by
    unfold spB dgB
    rcases hf with e | e | e
    · have e : chA L 0 = 45 := e
      rw [e]; decide
    · have e : chA L 0 = 92 := e
      rw [e]; decide
    · have := hs _ e
      have e : startB (chA L 0) = true := e
      have := hs _ e
      refine ⟨this.1, this.2.1, this.2.2.1, ?_, this.2.2.2.2.2.2.1, this.2.2.2.2.2.2.2.1, this.2.2.2.2.2.2.2.2.1⟩
      unfold spaceB; exact decide_eq_false (by omega)
  obtain ⟨x1, x2, x3, x4, x5, x6, x7⟩ := hx
  have hbh : behindF L 0 = 0 := behindGo_stop _ (by unfold openB isB; rw [decide_eq_false x1]; rfl)
  have n2 : numAt L 0 = false := by
    unfold numAt signAt
    have h43 : isB L 0 43 = false := decide_eq_false x5
    rcases h45 : isB L 0 45 with _ | _
    · rw [h43]
      have h46 : isB L 0 46 = false := decide_eq_false x6
      simp only [Bool.or_self, Bool.false_eq_true, if_false]
      unfold fracAt
      rw [x7, h46]; rfl
    · obtain ⟨y1, y2⟩ := hb0.nonum (isB_iff.1 h45)
      rw [h43]
      simp only [Bool.false_or, if_true]
      unfold fracAt
      rw [y1, y2]; rfl
  have n3 : cdcB L 0 = false := by
    unfold cdcB
    rcases h45 : isB L 0 45 with _ | _
    · rfl
    · rcases h46 : isB L 1 45 with _ | _
      · rfl
      · have := hb0.nocdc (isB_iff.1 h45) h46
        rw [this]; rfl
  refine ⟨L.length, all_one ?_ (by intro e; cases e) rfl hne⟩
  unfold nextF tokAt
  rw [hbh, if_neg (by omega), if_neg (by rw [x4]; decide), if_neg (by unfold isB; rw [decide_eq_false x2, decide_eq_false x3]; decide), if_neg (by rw [n2]; decide), if_neg (by rw [n3]; decide), if_pos hb0.name]
  unfold calledF
  rw [hN, if_pos (by show (!isB L L.length 40) = true; unfold isB; rw [chA_end L _ (Nat.le_refl _)]; decide)]
  show (⟨1, 0, L.length, bytesF (l ++ [120]), [], false⟩ : Tk) = _
  rw [bytes_fine hfine, hft]
end

section
open Go.RowKit Go.Shelf
set_option linter.unusedVariables false
set_option linter.unusedSimpArgs false

theorem conv_readsI (s : ByteArray) (w : World) (hs : s.size ≤ 1000000) : ∃ cap w', (convert 9 24 (.string s)).run Tryd.prog w = .ok (.slice (some ⟨w.heap.size, 0, none⟩) s.size cap) w' ∧ Below w.heap.size w w' ∧ Reads w' .u8 (some ⟨w.heap.size, 0, none⟩) cap (strI s) ∧ (strI s).length = s.size := by
  have hl : (strI s).length = s.size := strI_len s
  have hh := heap_alloc_new w.drew (.cells (bytesRow s (grownCap w s.size 0 5)) 5 ((bytesRow s (grownCap w s.size 0 5)).size, (bytesRow s (grownCap w s.size 0 5)).size + 1))
  refine ⟨_, _, run_bytes_of_string w 9 24 5 s Tryd.underlying9 Tryd.underlying24 Tryd.underlying5, ((Below.refl _ w).drew).alloc (Nat.le_refl _) _, ⟨by rw [hl]; exact grownCap_ge _ _ _ _, grownCap_le_maxLen _ _ _ _ (by unfold maxLen; omega), .inr ⟨_, _, rfl, by simp, fun j hj => ?_⟩⟩, hl⟩
  rw [hl] at hj
  rw [Nat.zero_add]
  have hjs : j < s.data.size := hj
  have hv : (bytesRow s (grownCap w s.size 0 5))[j]? = some (Value.int .u8 ((strI s)[j]?.getD 0)) := by
    unfold bytesRow
    rw [Array.getElem?_append_left (by simpa using hjs), Array.getElem?_map, Array.getElem?_eq_getElem hjs]
    have : (strI s)[j]? = some (((s.data[j]'hjs).toNat : Nat) : Int) := by
      unfold strI
      rw [List.getElem?_map]
      have : s.data.toList[j]? = some (s.data[j]'hjs) := by rw [List.getElem?_eq_getElem (by simpa using hjs)]; simp
      rw [this]; rfl
    rw [this]; rfl
  show World.cell? _ ⟨w.drew.heap.size, j, none⟩ = _
  simp only [World.cell?, hh]
  simpa using hv

set_option maxRecDepth 100000 in
set_option maxHeartbeats 8000000 in
theorem lawTokenBack_any (s : ByteArray) (w : World) (hT : TkW w) :
    Calls Tryd.prog 3 #[.string s] w (Told (.bool true) w) := by
  have cS := speaks3_any w hT
  by_cases hbig : 1000 < s.size
  · have q : (1000 : Int) < (s.size : Int) := by omega
    clear hT
    go_enter Tryd.func3, Tryd.ntmps3
    go_wp2_with fail
    refine cS.mono ?_
    rintro e w1 ⟨rfl, hb1⟩
    go_wp2
    go_ret
    exact ⟨rfl, hb1⟩
  have q : ¬ (1000 : Int) < (s.size : Int) := by omega
  have HT := Lib.hid hT
  clear hT
  go_enter Tryd.func3, Tryd.ntmps3
  go_wp2_with fail
  refine cS.mono ?_
  rintro e w1 ⟨rfl, hb1⟩
  clear cS
  obtain ⟨cap1, w2, hcv1, hb2, hr2, hl2⟩ := conv_readsI s w1 (by omega)
  have hgood := good_any _ cap1 (strI s) w2 hr2 (strI_u8 s) (by omega)
  unfold BoolPost at hgood
  rw [hl2] at hgood
  rcases hrf : rightF (strI s) with _ | _
  · rw [hrf] at hgood
    go_wp2_with (go_at_call 5; (with_reducible refine hgood.mono ?_); rintro e w3 ⟨rfl, hb3⟩)
    go_ret
    exact ⟨rfl, below_trans (below_trans hb1 hb2) hb3⟩
  rw [hrf] at hgood
  obtain ⟨l, hf, htx, hraw⟩ := good_list (strI_u8 s) hrf
  obtain ⟨N1, ht1⟩ := toks_quote hf
  have hqu : U8 (quoteF l) ∧ (quoteF l).length ≤ 6 * l.length + 2 := by
    obtain ⟨g1, g2⟩ := quoteTo_ok l (fun c hc => (hf c hc).1) l.length (Nat.le_refl _)
    unfold quoteF
    exact ⟨fun z hz => (List.mem_append.1 hz).elim (g1 z) (fun hz => by rw [List.mem_singleton.1 hz]; omega), by rw [List.length_append]; simp; omega⟩
  have hll : l.length ≤ 1000 := by have := rawF_len (strI s); rw [hraw, hl2] at this; omega
  have hiu := identTo_ok l (fun c hc => (hf c hc).1) l.length (Nat.le_refl _)
  have hiu : U8 (identF l) ∧ (identF l).length ≤ 6 * l.length := hiu
  have cQ := fun w' => rquote_any s w' (by omega)
  have cI := fun w' => rident_any s w' (by omega)
  rw [hraw] at cQ cI
  have hst : strOfNums (l.flatMap putF) = s := strOf_strI htx.symm
  have kRead := fun (zs : List Int) (a : Option Addr) (c : Nat) w' (hr : Reads w' .u8 a c zs) (hz : U8 zs) (hl : zs.length ≤ 100000) (hb : Below w.heap.size w w') => tread_any a zs.length c zs w' rfl hr hz hl (HT.out.later hb)
  have K := Lib.hid kRead
  have HF := Lib.hid hf
  have HST := Lib.hid hst
  have HT1 := Lib.hid ht1
  have HQU := Lib.hid hqu
  have HIU := Lib.hid hiu
  have HTX := Lib.hid htx
  clear kRead hf hst ht1 hqu hiu hrf hraw htx
  have hb12 := below_trans hb1 hb2
  go_wp2_with (go_at_call 5; (with_reducible refine hgood.mono ?_); rintro e w3 ⟨rfl, hb3⟩)
  have hb13 := below_trans hb12 hb3
  clear hgood hcv1 hr2 hb2 hb1 hb12
  have hq := HQU.out
  have hqz : (strOfNums (quoteF l)).size ≤ 6002 := by rw [strOfNums_size]; omega
  refine (cQ w3).mono ?_
  rintro e w4 ⟨rfl, hb4⟩
  have hb14 := below_trans hb13 hb4
  obtain ⟨cap2, w5, hcv2, hb5, hr5, hl5⟩ := conv_readsI (strOfNums (quoteF l)) w4 (by omega)
  rw [strI_nums _ hq.1] at hr5 hl5
  have c3 := K.out (quoteF l) _ cap2 w5 hr5 hq.1 (by omega) (below_trans hb14 hb5)
  have hb15 := below_trans hb14 hb5
  rw [hl5, HT1.out] at c3
  clear hr5 hl5 hb5 hb4 hb13 hb14 hb3 hq cQ HQU
  generalize strOfNums (quoteF l) = QT at *
  go_wp2_with fail
  refine c3.mono ?_
  rintro e w6 ⟨a6, d6, rfl, hr6, hb6⟩
  have hb16 := below_trans hb15 hb6
  obtain ⟨hc6, hc6', b6, rfl, hlt6, hcell6⟩ := hr6
  have x0 : w6.cell? ⟨b6, 0, none⟩ = some (.int .i64 5) := hcell6 0 _ rfl
  have x3 := hcell6 3 (.string (strOfNums (l.flatMap putF))) rfl
  rw [HST.out] at x3
  have qs : (s.toList == s.toList) = true := beq_self_eq_true _
  clear c3 hcv2 hcell6 hb15 hb6
  have HB16 := Lib.hid hb16
  clear hb16
  by_cases hs0 : s.size = 0
  · have hse : s.toList.isEmpty = true := by
      rw [ByteArray.toList_eq, List.isEmpty_iff]
      exact List.length_eq_zero_iff.1 (by rw [Array.length_toList]; exact hs0)
    clear hs0
    go_wp2
    go_ret
    exact ⟨rfl, HB16.out⟩
  have hse : s.toList.isEmpty = false := by
    rw [ByteArray.toList_eq, List.isEmpty_eq_false_iff]
    intro e
    have := congrArg List.length e
    rw [Array.length_toList] at this
    exact hs0 this
  have hlne : l ≠ [] := by
    intro e
    have := HTX.out
    rw [e] at this
    have h2 := strI_len s
    rw [this] at h2
    exact hs0 h2.symm
  obtain ⟨N2, ht2⟩ := toks_ident HF.out hlne
  obtain ⟨N3, ht3⟩ := toks_hash HF.out hlne
  have hid1 := strI_nums _ HIU.out.1
  have hid2 : (strOfNums (identF l)).size ≤ 6000 := by rw [strOfNums_size]; have := HIU.out.2; omega
  have hiu1 : U8 (identF l ++ [120]) := fun z hz => (List.mem_append.1 hz).elim (HIU.out.1 z) (fun hz => by rw [List.mem_singleton.1 hz]; omega)
  have hiu2 : U8 (35 :: identF l) := fun z hz => by
    rcases List.mem_cons.1 hz with rfl | hz
    · omega
    · exact HIU.out.1 z hz
  have hil := HIU.out.2
  have hpos : 0 < s.size := by omega
  have hpos' : (0 : Int) < (s.size : Int) := by omega
  have hsx : strOfNums (l.flatMap putF ++ [120]) = s ++ ⟨#[120]⟩ := strOf_strI (by rw [strI_append, ← HTX.out]; rfl)
  have HID := Lib.hid hid1
  have HT2 := Lib.hid ht2
  have HT3 := Lib.hid ht3
  have HU1 := Lib.hid hiu1
  have HU2 := Lib.hid hiu2
  have HSX := Lib.hid hsx
  have HIL := Lib.hid hil
  clear hid1 ht2 ht3 hiu1 hiu2 hsx hil hlne HF HIU HTX
  generalize strOfNums (identF l) = ID at *
  have hk1 : (⟨#[120]⟩ : ByteArray).size = 1 := rfl
  have hk2 : (⟨#[35]⟩ : ByteArray).size = 1 := rfl
  have hcat1 : ¬ 9223372036854775807 < ID.size + (⟨#[120]⟩ : ByteArray).size := by omega
  have hcat2 : ¬ 9223372036854775807 < (⟨#[35]⟩ : ByteArray).size + ID.size := by omega
  have hcat3 : ¬ 9223372036854775807 < s.size + (⟨#[120]⟩ : ByteArray).size := by omega
  clear hk1 hk2
  go_wp2_with fail
  refine (cI w6).mono ?_
  rintro e w7 ⟨rfl, hb7⟩
  have hb17 := below_trans HB16.out hb7
  obtain ⟨cap3, w8, hcv3, hb8, hr8, hl8⟩ := conv_readsI (ID ++ ⟨#[120]⟩) w7 (by rw [ByteArray.size_append]; have : (⟨#[120]⟩ : ByteArray).size = 1 := rfl; omega)
  have e8 : strI (ID ++ ⟨#[120]⟩) = identF l ++ [120] := by rw [strI_append, HID.out]; rfl
  rw [e8] at hr8 hl8
  have c4 := K.out (identF l ++ [120]) _ cap3 w8 hr8 HU1.out (by rw [List.length_append]; have := HIL.out; simp; omega) (below_trans hb17 hb8)
  have hb18 := below_trans hb17 hb8
  rw [hl8, HT2.out, show (ID ++ ⟨#[120]⟩ : ByteArray).size = ID.size + 1 from by rw [ByteArray.size_append]; rfl] at c4
  clear hr8 hl8 e8 hb17 hb8 hb7 HB16
  go_wp2_with fail
  refine c4.mono ?_
  rintro e w9 ⟨a9, d9, rfl, hr9, hb9⟩
  have hb19 := below_trans hb18 hb9
  have HR9 := Lib.hid hr9
  clear c4 hcv3 hr9 hb18 hb9
  go_wp2_with fail
  refine (cI w9).mono ?_
  rintro e w10 ⟨rfl, hb10⟩
  obtain ⟨cap4, w11, hcv4, hb11, hr11, hl11⟩ := conv_readsI (⟨#[35]⟩ ++ ID) w10 (by rw [ByteArray.size_append]; have : (⟨#[35]⟩ : ByteArray).size = 1 := rfl; omega)
  have e11 : strI ((⟨#[35]⟩ : ByteArray) ++ ID) = 35 :: identF l := by rw [strI_append, HID.out]; rfl
  rw [e11] at hr11 hl11
  have hb911 := below_trans hb10 hb11
  have c5 := K.out (35 :: identF l) _ cap4 w11 hr11 HU2.out (by rw [List.length_cons]; have := HIL.out; omega) (below_trans hb19 hb911)
  rw [hl11, HT3.out, show ((⟨#[35]⟩ : ByteArray) ++ ID).size = 1 + ID.size from by rw [ByteArray.size_append]; rfl] at c5
  clear hr11 hl11 e11 hb10 hb11
  go_wp2_with fail
  refine c5.mono ?_
  rintro e w12 ⟨a12, d12, rfl, hr12, hb12⟩
  have hb912 := below_trans hb911 hb12
  have hb112 := Lib.hid (below_trans hb19 hb912)
  have hr9 := HR9.out.later hb912
  clear c5 hcv4 hb12 hb911 hb912 hb19 x0 x3 cI K HT HR9
  obtain ⟨hc9, hc9', b9, rfl, hlt9, hcell9⟩ := hr9
  obtain ⟨hc12, hc12', b12, rfl, hlt12, hcell12⟩ := hr12
  have y0 : w12.cell? ⟨b12, 0, none⟩ = some (.int .i64 4) := hcell12 0 _ rfl
  have y3 := hcell12 3 (.string (strOfNums (l.flatMap putF))) rfl
  have y5 := hcell12 5 (.bool true) rfl
  have z0 : w12.cell? ⟨b9, 0, none⟩ = some (.int .i64 1) := hcell9 0 _ rfl
  have z3 := hcell9 3 (.string (strOfNums (l.flatMap putF ++ [120]))) rfl
  rw [HST.out] at y3
  rw [HSX.out] at z3
  have qx : ((s ++ ⟨#[120]⟩ : ByteArray).toList == (s ++ ⟨#[120]⟩ : ByteArray).toList) = true := beq_self_eq_true _
  clear hcell9 hcell12
  rcases hef : ((((s[0]'hpos).toNat : Nat) : Int) == 239) with _ | _
  all_goals
    go_wp2
    go_ret
    exact ⟨rfl, hb112.out⟩
end
end Go.Proofs.YtdopmkiogmejaaaDoor
