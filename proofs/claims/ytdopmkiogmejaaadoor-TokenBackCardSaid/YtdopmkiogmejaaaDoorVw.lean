/- Words between blanks, and conditions on values: mathematics alone. -/
import Derived.Test.YtdopmkiogmejaaaDoorKit
import Derived.Lib.FieldsP
import Derived.Lib.SpaceUEq
namespace Go.Proofs.YtdopmkiogmejaaaDoor
open Go.RowKit

/-- The bytes of a string. -/
def strB (s : ByteArray) : List UInt8 := s.data.toList
theorem strB_len (s : ByteArray) : (strB s).length = s.size := by unfold strB; rw [Array.length_toList]; rfl
theorem strB_inj {a b : ByteArray} (h : strB a = strB b) : a = b := by
  cases a; cases b
  unfold strB at h
  simp at h
  rw [h]

/-- A byte that parts words. -/
def blankB (b : UInt8) : Bool := b.toNat == 32 || b.toNat == 9 || b.toNat == 10 || b.toNat == 12 || b.toNat == 13
def wordsGo : List UInt8 → List UInt8 → List (List UInt8)
  | cur, [] => if cur = [] then [] else [cur]
  | cur, b :: bs => if blankB b = true then (if cur = [] then [] else [cur]) ++ wordsGo [] bs else wordsGo (cur ++ [b]) bs
/-- The parts of bytes between blanks. -/
def words (v : List UInt8) : List (List UInt8) := wordsGo [] v

theorem wordsGo_skip : ∀ (xs cur ys : List UInt8), (∀ b ∈ xs, blankB b = false) → wordsGo cur (xs ++ ys) = wordsGo (cur ++ xs) ys
  | [], cur, ys, _ => by simp
  | x :: xs, cur, ys, h => by
    have hx := h x (by simp)
    rw [List.cons_append, wordsGo, if_neg (by rw [hx]; simp), wordsGo_skip xs (cur ++ [x]) ys (fun b hb => h b (by simp [hb])), List.append_assoc]
    rfl
theorem wordsGo_blank : ∀ (xs cur : List UInt8) (b : UInt8) (ys : List UInt8), blankB b = true → wordsGo cur (xs ++ b :: ys) = wordsGo cur xs ++ words ys
  | [], cur, b, ys, h => by simp [wordsGo, words, h]
  | x :: xs, cur, b, ys, h => by
    rw [List.cons_append, wordsGo, wordsGo]
    by_cases hx : blankB x = true
    · rw [if_pos hx, if_pos hx, wordsGo_blank xs [] b ys h, List.append_assoc]
    · rw [if_neg hx, if_neg hx, wordsGo_blank xs _ b ys h]
theorem words_blank (xs ys : List UInt8) (b : UInt8) (h : blankB b = true) : words (xs ++ b :: ys) = words xs ++ words ys := wordsGo_blank xs [] b ys h
theorem wordsGo_map (f : UInt8 → UInt8) (hf : ∀ b, blankB (f b) = blankB b) : ∀ (xs cur : List UInt8), wordsGo (cur.map f) (xs.map f) = (wordsGo cur xs).map (List.map f)
  | [], cur => by
    simp only [List.map_nil, wordsGo, List.map_eq_nil_iff]
    split <;> rfl
  | x :: xs, cur => by
    rw [List.map_cons, wordsGo, wordsGo, hf]
    by_cases hx : blankB x = true
    · rw [if_pos hx, if_pos hx, List.map_append]
      have ih := wordsGo_map f hf xs []
      rw [List.map_nil] at ih
      rw [ih]
      congr 1
      simp only [List.map_eq_nil_iff]
      split <;> rfl
    · rw [if_neg hx, if_neg hx]
      have ih := wordsGo_map f hf xs (cur ++ [x])
      rw [List.map_append] at ih
      exact ih
theorem words_map (f : UInt8 → UInt8) (hf : ∀ b, blankB (f b) = blankB b) (xs : List UInt8) : words (xs.map f) = (words xs).map (List.map f) := wordsGo_map f hf xs []
theorem wordsGo_mem : ∀ (xs cur t : List UInt8), (∀ b ∈ cur, blankB b = false) → t ∈ wordsGo cur xs → t ≠ [] ∧ (∃ p q, p ++ t ++ q = cur ++ xs) ∧ ∀ b ∈ t, blankB b = false
  | [], cur, t, hc, h => by
    rw [wordsGo] at h
    split at h
    · simp at h
    · obtain rfl := List.mem_singleton.1 h
      exact ⟨by assumption, ⟨[], [], by simp⟩, hc⟩
  | x :: xs, cur, t, hc, h => by
    rw [wordsGo] at h
    by_cases hx : blankB x = true
    · rw [if_pos hx] at h
      rcases List.mem_append.1 h with h | h
      · split at h
        · simp at h
        · obtain rfl := List.mem_singleton.1 h
          exact ⟨by assumption, ⟨[], x :: xs, by simp⟩, hc⟩
      · obtain ⟨h1, ⟨p, q, h2⟩, h3⟩ := wordsGo_mem xs [] t (by simp) h
        exact ⟨h1, ⟨cur ++ x :: p, q, by rw [List.nil_append] at h2; rw [← h2]; simp⟩, h3⟩
    · rw [if_neg hx] at h
      obtain ⟨h1, ⟨p, q, h2⟩, h3⟩ := wordsGo_mem xs (cur ++ [x]) t (by
        intro b hb
        rcases List.mem_append.1 hb with hb | hb
        · exact hc b hb
        · obtain rfl := List.mem_singleton.1 hb; simpa using hx) h
      exact ⟨h1, ⟨p, q, by rw [h2]; simp⟩, h3⟩
theorem words_mem {v t : List UInt8} (h : t ∈ words v) : t ≠ [] ∧ t <:+: v ∧ ∀ b ∈ t, blankB b = false := by
  obtain ⟨h1, ⟨p, q, h2⟩, h3⟩ := wordsGo_mem v [] t (by simp) h
  exact ⟨h1, ⟨p, q, by rw [h2]; rfl⟩, h3⟩
theorem words_self {t : List UInt8} (h0 : t ≠ []) (h : ∀ b ∈ t, blankB b = false) : words t = [t] := by
  have := wordsGo_skip t [] [] h
  rw [List.append_nil, List.nil_append] at this
  unfold words
  rw [this, wordsGo, if_neg h0]

/-- A rune's bytes: where the first one is 128 or more, so are all of the rune. -/
theorem decode_high (l : List UInt8) (hl : 0 < l.length) (h0 : 128 ≤ (l.getD 0 0).toNat) : 128 ≤ (Lib.decodeL l).1 ∧ (Lib.decodeL l).1 ≤ 1114111 ∧ 1 ≤ (Lib.decodeL l).2 ∧ (Lib.decodeL l).2 ≤ l.length ∧ ∀ b ∈ l.take (Lib.decodeL l).2, blankB b = false := by
  have hc := Lib.decodeN_conts l.length (l.getD 0 0).toNat (l.getD 1 0).toNat (l.getD 2 0).toNat (l.getD 3 0).toNat
  have hk := Lib.decodeN_cases l.length (l.getD 0 0).toNat (l.getD 1 0).toNat (l.getD 2 0).toNat (l.getD 3 0).toNat
  have hge := Lib.decodeN_ge1 l.length (l.getD 0 0).toNat (l.getD 1 0).toNat (l.getD 2 0).toNat (l.getD 3 0).toNat
  have hle := Lib.decodeN_le_n' l.length (l.getD 0 0).toNat (l.getD 1 0).toNat (l.getD 2 0).toNat (l.getD 3 0).toNat hl
  have hru := Lib.decodeN_rune_le l.length (l.getD 0 0).toNat (l.getD 1 0).toNat (l.getD 2 0).toNat (l.getD 3 0).toNat (UInt8.toNat_lt _)
  rw [← Lib.decodeL_N] at hc hk hge hle hru
  obtain ⟨c1, c2, c3, c4⟩ := hc
  refine ⟨?_, hru, hge, hle, fun b hb => ?_⟩
  · rcases hk with ⟨h, _⟩ | ⟨_, _, _, h, e⟩ | ⟨_, _, _, _, h, e⟩ | ⟨h, _⟩ | e
    · omega
    · rw [e]; exact h
    · rw [e]; show 128 ≤ _; simp only; omega
    · omega
    · rw [e]; show 128 ≤ 65533; omega
  · obtain ⟨j, hj, he⟩ := List.mem_take_iff_getElem.1 hb
    have hj' : j < (Lib.decodeL l).2 := by omega
    have hg : l.getD j 0 = b := by rw [List.getD_eq_getElem?_getD, List.getElem?_eq_getElem (by omega)]; exact he
    have h3 : j < 4 := by omega
    have hb128 : 128 ≤ b.toNat := by
      rw [← hg]
      match j, h3 with
      | 0, _ => exact h0
      | 1, _ => have := (c1 (by omega)).1; omega
      | 2, _ => have := (c2 (by omega)).1; omega
      | 3, _ => have := (c3 (by omega)).1; omega
    unfold blankB
    simp
    omega

/-- A small letter for a great one. -/
def lowB (b : UInt8) : UInt8 := if 65 ≤ b.toNat ∧ b.toNat ≤ 90 then UInt8.ofNat (b.toNat + 32) else b
theorem lowB_blank (b : UInt8) : blankB (lowB b) = blankB b := by
  have h : ∀ b : Fin 256, blankB (lowB (UInt8.ofNat b.val)) = blankB (UInt8.ofNat b.val) := by decide +kernel
  have := h ⟨b.toNat, b.toNat_lt⟩
  simpa using this
/-- A great letter for a small one. -/
def upB (b : UInt8) : UInt8 := if 97 ≤ b.toNat ∧ b.toNat ≤ 122 then UInt8.ofNat (b.toNat - 32) else b
theorem low_upB (b : UInt8) : lowB (upB b) = lowB b := by
  have h : ∀ b : Fin 256, lowB (upB (UInt8.ofNat b.val)) = lowB (UInt8.ofNat b.val) := by decide +kernel
  have := h ⟨b.toNat, b.toNat_lt⟩
  simpa using this

/-- Does a condition hold, where letters are as they are? -/
def holdsT (op : Int) (t v : List UInt8) : Bool :=
  if op = 1 then true
  else if op = 2 then decide (v = t)
  else if op = 3 then decide (t ∈ words v)
  else if op = 4 then decide (t = v ∨ (t ++ [45]) <+: v)
  else if op = 5 then decide (t ≠ [] ∧ t <+: v)
  else if op = 6 then decide (t ≠ [] ∧ t <:+ v)
  else if op = 7 then decide (t ≠ [] ∧ t <:+: v)
  else false
/-- Does a condition hold of a value? -/
def holdsF (op : Int) (t : List UInt8) (fold : Bool) (v : List UInt8) : Bool :=
  if fold = true then holdsT op (t.map lowB) (v.map lowB) else holdsT op t v
def neverF (op : Int) (t : List UInt8) (fold : Bool) : Bool := ! holdsF op t fold t

theorem prefix_map (f : UInt8 → UInt8) {a b : List UInt8} (h : a <+: b) : a.map f <+: b.map f := by obtain ⟨r, rfl⟩ := h; exact ⟨r.map f, by simp⟩
theorem suffix_map (f : UInt8 → UInt8) {a b : List UInt8} (h : a <:+ b) : a.map f <:+ b.map f := by obtain ⟨r, rfl⟩ := h; exact ⟨r.map f, by simp⟩
theorem infix_map (f : UInt8 → UInt8) {a b : List UInt8} (h : a <:+: b) : a.map f <:+: b.map f := by obtain ⟨r, q, rfl⟩ := h; exact ⟨r.map f, q.map f, by simp⟩
/-- What holds as letters are holds where they are alike. -/
theorem holdsT_map {op : Int} {t v : List UInt8} (h : holdsT op t v = true) : holdsT op (t.map lowB) (v.map lowB) = true := by
  unfold holdsT at h ⊢
  repeat' split at h
  all_goals (try simp only [*, if_true, if_false])
  · simp at h; subst h; simp
  · rw [decide_eq_true_eq] at h
    rw [if_neg (by decide), if_neg (by decide), decide_eq_true_eq, words_map lowB lowB_blank]
    exact List.mem_map_of_mem h
  · rw [decide_eq_true_eq] at h
    rw [if_neg (by decide), if_neg (by decide), if_neg (by decide), decide_eq_true_eq]
    rcases h with rfl | h
    · exact .inl rfl
    · right
      have := prefix_map lowB h
      rw [List.map_append] at this
      exact this
  · rw [decide_eq_true_eq] at h
    rw [if_neg (by decide), if_neg (by decide), if_neg (by decide), if_neg (by decide), decide_eq_true_eq]
    exact ⟨by simpa using h.1, prefix_map lowB h.2⟩
  · rw [decide_eq_true_eq] at h
    rw [if_neg (by decide), if_neg (by decide), if_neg (by decide), if_neg (by decide), if_neg (by decide), decide_eq_true_eq]
    exact ⟨by simpa using h.1, suffix_map lowB h.2⟩
  · rw [decide_eq_true_eq] at h
    rw [if_neg (by decide), if_neg (by decide), if_neg (by decide), if_neg (by decide), if_neg (by decide), if_neg (by decide), decide_eq_true_eq]
    exact ⟨by simpa using h.1, infix_map lowB h.2⟩
/-- The law ValueFold. -/
theorem fold_alike (op : Int) (t v : List UInt8) : holdsF op t true (v.map upB) = holdsF op t true v := by
  unfold holdsF
  rw [if_pos rfl, if_pos rfl, List.map_map]
  congr 1
  exact List.map_congr_left (fun b _ => low_upB b)
theorem fold_more (op : Int) (t v : List UInt8) (h : holdsF op t false v = true) : holdsF op t true v = true := by
  unfold holdsF at h ⊢
  rw [if_neg (by simp)] at h
  rw [if_pos rfl]
  exact holdsT_map h
end Go.Proofs.YtdopmkiogmejaaaDoor
