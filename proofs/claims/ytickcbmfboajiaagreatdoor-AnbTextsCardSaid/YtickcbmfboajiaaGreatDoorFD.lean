/- Several texts of mine in one. -/
import Derived.Test.YtickcbmfboajiaaGreatDoorFA
import Derived.Lib.FieldsP
import Derived.Lib.SpaceUEq
import Derived.Test.YtickcbmfboajiaaGreatDoorFC
import Derived.Laws.IdiomStrings
namespace Go.Proofs.YtickcbmfboajiaaGreatDoor
section
open Go.RowKit

/-- The bytes of a string. -/
def strB (s : ByteArray) : List UInt8 := s.data.toList
theorem strB_len (s : ByteArray) : (strB s).length = s.size := by unfold strB; rw [Array.length_toList]; rfl
theorem strB_inj {a b : ByteArray} (h : strB a = strB b) : a = b := by
  cases a; cases b
  unfold strB at h
  simp at h
  rw [h]

/-- A byte that parts words. -/
def blankB (b : UInt8) : Bool := b.toNat == 32 || b.toNat == 9 || b.toNat == 10 || b.toNat == 12 || b.toNat == 13
def wordsGo : List UInt8 → List UInt8 → List (List UInt8)
  | cur, [] => if cur = [] then [] else [cur]
  | cur, b :: bs => if blankB b = true then (if cur = [] then [] else [cur]) ++ wordsGo [] bs else wordsGo (cur ++ [b]) bs
/-- The parts of bytes between blanks. -/
def words (v : List UInt8) : List (List UInt8) := wordsGo [] v

theorem wordsGo_skip : ∀ (xs cur ys : List UInt8), (∀ b ∈ xs, blankB b = false) → wordsGo cur (xs ++ ys) = wordsGo (cur ++ xs) ys
  | [], cur, ys, _ => by simp
  | x :: xs, cur, ys, h => by
    have hx := h x (by simp)
    rw [List.cons_append, wordsGo, if_neg (by rw [hx]; simp), wordsGo_skip xs (cur ++ [x]) ys (fun b hb => h b (by simp [hb])), List.append_assoc]
    rfl
theorem wordsGo_blank : ∀ (xs cur : List UInt8) (b : UInt8) (ys : List UInt8), blankB b = true → wordsGo cur (xs ++ b :: ys) = wordsGo cur xs ++ words ys
  | [], cur, b, ys, h => by simp [wordsGo, words, h]
  | x :: xs, cur, b, ys, h => by
    rw [List.cons_append, wordsGo, wordsGo]
    by_cases hx : blankB x = true
    · rw [if_pos hx, if_pos hx, wordsGo_blank xs [] b ys h, List.append_assoc]
    · rw [if_neg hx, if_neg hx, wordsGo_blank xs _ b ys h]
theorem words_blank (xs ys : List UInt8) (b : UInt8) (h : blankB b = true) : words (xs ++ b :: ys) = words xs ++ words ys := wordsGo_blank xs [] b ys h
theorem wordsGo_map (f : UInt8 → UInt8) (hf : ∀ b, blankB (f b) = blankB b) : ∀ (xs cur : List UInt8), wordsGo (cur.map f) (xs.map f) = (wordsGo cur xs).map (List.map f)
  | [], cur => by
    simp only [List.map_nil, wordsGo, List.map_eq_nil_iff]
    split <;> rfl
  | x :: xs, cur => by
    rw [List.map_cons, wordsGo, wordsGo, hf]
    by_cases hx : blankB x = true
    · rw [if_pos hx, if_pos hx, List.map_append]
      have ih := wordsGo_map f hf xs []
      rw [List.map_nil] at ih
      rw [ih]
      congr 1
      simp only [List.map_eq_nil_iff]
      split <;> rfl
    · rw [if_neg hx, if_neg hx]
      have ih := wordsGo_map f hf xs (cur ++ [x])
      rw [List.map_append] at ih
      exact ih
theorem words_map (f : UInt8 → UInt8) (hf : ∀ b, blankB (f b) = blankB b) (xs : List UInt8) : words (xs.map f) = (words xs).map (List.map f) := wordsGo_map f hf xs []
theorem wordsGo_mem : ∀ (xs cur t : List UInt8), (∀ b ∈ cur, blankB b = false) → t ∈ wordsGo cur xs → t ≠ [] ∧ (∃ p q, p ++ t ++ q = cur ++ xs) ∧ ∀ b ∈ t, blankB b = false
  | [], cur, t, hc, h => by
    rw [wordsGo] at h
    split at h
    · simp at h
    · obtain rfl := List.mem_singleton.1 h
      exact ⟨by assumption, ⟨[], [], by simp⟩, hc⟩
  | x :: xs, cur, t, hc, h => by
    rw [wordsGo] at h
    by_cases hx : blankB x = true
    · rw [if_pos hx] at h
      rcases List.mem_append.1 h with h | h
      · split at h
        · simp at h
        · obtain rfl := List.mem_singleton.1 h
          exact ⟨by assumption, ⟨[], x :: xs, by simp⟩, hc⟩
      · obtain ⟨h1, ⟨p, q, h2⟩, h3⟩ := wordsGo_mem xs [] t (by simp) h
        exact ⟨h1, ⟨cur ++ x :: p, q, by rw [List.nil_append] at h2; rw [← h2]; simp⟩, h3⟩
    · rw [if_neg hx] at h
      obtain ⟨h1, ⟨p, q, h2⟩, h3⟩ := wordsGo_mem xs (cur ++ [x]) t (by
        intro b hb
        rcases List.mem_append.1 hb with hb | hb
        · exact hc b hb
        · obtain rfl := List.mem_singleton.1 hb; simpa using hx) h
      exact ⟨h1, ⟨p, q, by rw [h2]; simp⟩, h3⟩
theorem words_mem {v t : List UInt8} (h : t ∈ words v) : t ≠ [] ∧ t <:+: v ∧ ∀ b ∈ t, blankB b = false := by
  obtain ⟨h1, ⟨p, q, h2⟩, h3⟩ := wordsGo_mem v [] t (by simp) h
  exact ⟨h1, ⟨p, q, by rw [h2]; rfl⟩, h3⟩
theorem words_self {t : List UInt8} (h0 : t ≠ []) (h : ∀ b ∈ t, blankB b = false) : words t = [t] := by
  have := wordsGo_skip t [] [] h
  rw [List.append_nil, List.nil_append] at this
  unfold words
  rw [this, wordsGo, if_neg h0]

/-- A rune's bytes: where the first one is 128 or more, so are all of the rune. -/
theorem decode_high (l : List UInt8) (hl : 0 < l.length) (h0 : 128 ≤ (l.getD 0 0).toNat) : 128 ≤ (Lib.decodeL l).1 ∧ (Lib.decodeL l).1 ≤ 1114111 ∧ 1 ≤ (Lib.decodeL l).2 ∧ (Lib.decodeL l).2 ≤ l.length ∧ ∀ b ∈ l.take (Lib.decodeL l).2, blankB b = false := by
  have hc := Lib.decodeN_conts l.length (l.getD 0 0).toNat (l.getD 1 0).toNat (l.getD 2 0).toNat (l.getD 3 0).toNat
  have hk := Lib.decodeN_cases l.length (l.getD 0 0).toNat (l.getD 1 0).toNat (l.getD 2 0).toNat (l.getD 3 0).toNat
  have hge := Lib.decodeN_ge1 l.length (l.getD 0 0).toNat (l.getD 1 0).toNat (l.getD 2 0).toNat (l.getD 3 0).toNat
  have hle := Lib.decodeN_le_n' l.length (l.getD 0 0).toNat (l.getD 1 0).toNat (l.getD 2 0).toNat (l.getD 3 0).toNat hl
  have hru := Lib.decodeN_rune_le l.length (l.getD 0 0).toNat (l.getD 1 0).toNat (l.getD 2 0).toNat (l.getD 3 0).toNat (UInt8.toNat_lt _)
  rw [← Lib.decodeL_N] at hc hk hge hle hru
  obtain ⟨c1, c2, c3, c4⟩ := hc
  refine ⟨?_, hru, hge, hle, fun b hb => ?_⟩
  · rcases hk with ⟨h, _⟩ | ⟨_, _, _, h, e⟩ | ⟨_, _, _, _, h, e⟩ | ⟨h, _⟩ | e
    · omega
    · rw [e]; exact h
    · rw [e]; show 128 ≤ _; simp only; omega
    · omega
    · rw [e]; show 128 ≤ 65533; omega
  · obtain ⟨j, hj, he⟩ := List.mem_take_iff_getElem.1 hb
    have hj' : j < (Lib.decodeL l).2 := by omega
    have hg : l.getD j 0 = b := by rw [List.getD_eq_getElem?_getD, List.getElem?_eq_getElem (by omega)]; exact he
    have h3 : j < 4 := by omega
    have hb128 : 128 ≤ b.toNat := by
      rw [← hg]
      match j, h3 with
      | 0, _ => exact h0
      | 1, _ => have := (c1 (by omega)).1; omega
      | 2, _ => have := (c2 (by omega)).1; omega
      | 3, _ => have := (c3 (by omega)).1; omega
    unfold blankB
    simp
    omega

/-- A small letter for a great one. -/
def lowB (b : UInt8) : UInt8 := if 65 ≤ b.toNat ∧ b.toNat ≤ 90 then UInt8.ofNat (b.toNat + 32) else b
theorem lowB_blank (b : UInt8) : blankB (lowB b) = blankB b := by
  have h : ∀ b : Fin 256, blankB (lowB (UInt8.ofNat b.val)) = blankB (UInt8.ofNat b.val) := by decide +kernel
  have := h ⟨b.toNat, b.toNat_lt⟩
  simpa using this
/-- A great letter for a small one. -/
def upB (b : UInt8) : UInt8 := if 97 ≤ b.toNat ∧ b.toNat ≤ 122 then UInt8.ofNat (b.toNat - 32) else b
theorem low_upB (b : UInt8) : lowB (upB b) = lowB b := by
  have h : ∀ b : Fin 256, lowB (upB (UInt8.ofNat b.val)) = lowB (UInt8.ofNat b.val) := by decide +kernel
  have := h ⟨b.toNat, b.toNat_lt⟩
  simpa using this

/-- Does a condition hold, where letters are as they are? -/
def holdsT (op : Int) (t v : List UInt8) : Bool :=
  if op = 1 then true
  else if op = 2 then decide (v = t)
  else if op = 3 then decide (t ∈ words v)
  else if op = 4 then decide (t = v ∨ (t ++ [45]) <+: v)
  else if op = 5 then decide (t ≠ [] ∧ t <+: v)
  else if op = 6 then decide (t ≠ [] ∧ t <:+ v)
  else if op = 7 then decide (t ≠ [] ∧ t <:+: v)
  else false
/-- Does a condition hold of a value? -/
def holdsF (op : Int) (t : List UInt8) (fold : Bool) (v : List UInt8) : Bool :=
  if fold = true then holdsT op (t.map lowB) (v.map lowB) else holdsT op t v
def neverF (op : Int) (t : List UInt8) (fold : Bool) : Bool := ! holdsF op t fold t

theorem prefix_map (f : UInt8 → UInt8) {a b : List UInt8} (h : a <+: b) : a.map f <+: b.map f := by obtain ⟨r, rfl⟩ := h; exact ⟨r.map f, by simp⟩
theorem suffix_map (f : UInt8 → UInt8) {a b : List UInt8} (h : a <:+ b) : a.map f <:+ b.map f := by obtain ⟨r, rfl⟩ := h; exact ⟨r.map f, by simp⟩
theorem infix_map (f : UInt8 → UInt8) {a b : List UInt8} (h : a <:+: b) : a.map f <:+: b.map f := by obtain ⟨r, q, rfl⟩ := h; exact ⟨r.map f, q.map f, by simp⟩
/-- What holds as letters are holds where they are alike. -/
theorem holdsT_map {op : Int} {t v : List UInt8} (h : holdsT op t v = true) : holdsT op (t.map lowB) (v.map lowB) = true := by
  unfold holdsT at h ⊢
  repeat' split at h
  all_goals (try simp only [*, if_true, if_false])
  · simp at h; subst h; simp
  · rw [decide_eq_true_eq] at h
    rw [if_neg (by decide), if_neg (by decide), decide_eq_true_eq, words_map lowB lowB_blank]
    exact List.mem_map_of_mem h
  · rw [decide_eq_true_eq] at h
    rw [if_neg (by decide), if_neg (by decide), if_neg (by decide), decide_eq_true_eq]
    rcases h with rfl | h
    · exact .inl rfl
    · right
      have := prefix_map lowB h
      rw [List.map_append] at this
      exact this
  · rw [decide_eq_true_eq] at h
    rw [if_neg (by decide), if_neg (by decide), if_neg (by decide), if_neg (by decide), decide_eq_true_eq]
    exact ⟨by simpa using h.1, prefix_map lowB h.2⟩
  · rw [decide_eq_true_eq] at h
    rw [if_neg (by decide), if_neg (by decide), if_neg (by decide), if_neg (by decide), if_neg (by decide), decide_eq_true_eq]
    exact ⟨by simpa using h.1, suffix_map lowB h.2⟩
  · rw [decide_eq_true_eq] at h
    rw [if_neg (by decide), if_neg (by decide), if_neg (by decide), if_neg (by decide), if_neg (by decide), if_neg (by decide), decide_eq_true_eq]
    exact ⟨by simpa using h.1, infix_map lowB h.2⟩
/-- The law ValueFold. -/
theorem fold_alike (op : Int) (t v : List UInt8) : holdsF op t true (v.map upB) = holdsF op t true v := by
  unfold holdsF
  rw [if_pos rfl, if_pos rfl, List.map_map]
  congr 1
  exact List.map_congr_left (fun b _ => low_upB b)
theorem fold_more (op : Int) (t v : List UInt8) (h : holdsF op t false v = true) : holdsF op t true v = true := by
  unfold holdsF at h ⊢
  rw [if_neg (by simp)] at h
  rw [if_pos rfl]
  exact holdsT_map h
end

section
open Go.RowKit

def firstB (s : ByteArray) (c : UInt8) : Bool := decide ((strB s)[0]? = some c)
theorem extract_one (s : ByteArray) (hs : 1 ≤ s.size) (c : UInt8) : ((s.extract 0 1).toList == [c]) = firstB s c := by
  rw [ByteArray.toList_eq]
  have e : (s.extract 0 1).data.toList = (strB s).take 1 := by
    rw [show (s.extract 0 1).data = s.data.extract 0 1 from by simp [ByteArray.extract, ByteArray.copySlice], Array.toList_extract]
    simp [strB, List.extract]
  rw [e]
  unfold firstB
  have hl : 0 < (strB s).length := by rw [strB_len]; exact hs
  cases h : strB s with
  | nil => rw [h] at hl; simp at hl
  | cons x xs =>
    rw [Bool.eq_iff_iff, beq_iff_eq, decide_eq_true_iff]
    simp

set_option maxRecDepth 100000 in
set_option maxHeartbeats 1000000 in
theorem hasPrefixIn_one (s : ByteArray) (c : UInt8) (w : World) :
    Calls Tryz.prog 130 #[.string s, .string ⟨#[c]⟩] w (Tells (.bool (firstB s c)) w) := by
  by_cases hs : 1 ≤ s.size
  · have he := Lib.hid (extract_one s hs c)
    have hs' : (1 : Int) ≤ (s.size : Int) := by omega
    go_enter Tryz.func130, Tryz.ntmps130
    go_wp2
    go_ret
    exact ⟨ret_bool he.out, rfl⟩
  · have h0 : firstB s c = false := decide_eq_false (by rw [List.getElem?_eq_none (by rw [strB_len]; omega)]; simp)
    rw [h0]
    have hs' : ¬ (1 : Int) ≤ (s.size : Int) := by omega
    go_enter Tryz.func130, Tryz.ntmps130
    go_wp2
    go_ret
    exact ⟨rfl, rfl⟩
set_option maxRecDepth 100000 in
theorem hasPrefix_one (s : ByteArray) (c : UInt8) (w : World) :
    Calls Tryz.prog 98 #[.string s, .string ⟨#[c]⟩] w (Tells (.bool (firstB s c)) w) := by
  have h := fun w => hasPrefixIn_one s c w
  go_enter Tryz.func98, Tryz.ntmps98
  go_wp2_with fail
  refine (h _).mono ?_
  rintro e wq ⟨rfl, hwq⟩; replace hwq := hwq.symm; subst hwq
  go_wp2
  go_ret
  exact ⟨rfl, rfl⟩

def signedB (s : ByteArray) : Bool := firstB s 43 || firstB s 45
set_option maxRecDepth 100000 in
set_option maxHeartbeats 1000000 in
theorem isSigned_any (s : ByteArray) (w : World) : Calls Tryz.prog 103 #[.string s] w (Tells (.bool (signedB s)) w) := by
  have h1 := hasPrefix_one s 43 w
  have h2 := hasPrefix_one s 45 w
  unfold signedB
  generalize firstB s 43 = r1 at *
  generalize firstB s 45 = r2 at *
  cases r1 <;> cases r2
  all_goals
    go_enter Tryz.func103, Tryz.ntmps103
    go_wp2_with ((first | (go_at_call 98; with_reducible refine h1.mono ?_) | (go_at_call 98; with_reducible refine h2.mono ?_)); rintro e wq ⟨rfl, hwq⟩; replace hwq := hwq.symm; subst hwq)
    go_ret
    exact ⟨rfl, rfl⟩

/-- What the conversion of a string to bytes lays. -/
theorem conv_str (s : ByteArray) (w : World) : ∃ cap w', (convert 9 22 (.string s)).run Tryz.prog w = .ok (.slice (some ⟨w.heap.size, 0, none⟩) s.size cap) w' ∧ s.size ≤ cap ∧ Below w.heap.size w w' ∧
    ∀ (j : Nat) (b : UInt8), (strB s)[j]? = some b → w'.cell? ⟨w.heap.size, j, none⟩ = some (.int .u8 b.toNat) := by
  refine ⟨_, _, run_bytes_of_string w 9 22 5 s Tryz.underlying9 Tryz.underlying22 Tryz.underlying5, ?_, ?_, fun j b hb => ?_⟩
  · exact grownCap_ge _ _ _ _
  · exact ((Below.refl _ w).drew).alloc (Nat.le_refl _) _
  · have hj : j < (strB s).length := (List.getElem?_eq_some_iff.1 hb).1
    have hjs : j < s.data.size := by unfold strB at hj; simpa using hj
    have hv : (bytesRow s (grownCap w s.size 0 5))[j]? = some (Value.int .u8 b.toNat) := by
      unfold bytesRow
      rw [Array.getElem?_append_left (by simpa using hjs), Array.getElem?_map]
      have : s.data[j]? = some b := by rw [← hb]; unfold strB; simp
      rw [this]; rfl
    have hh : (w.drew.alloc (.cells (bytesRow s (grownCap w s.size 0 5)) 5 ((bytesRow s (grownCap w s.size 0 5)).size, (bytesRow s (grownCap w s.size 0 5)).size + 1))).heap[w.heap.size]? = some (.cells (bytesRow s (grownCap w s.size 0 5)) 5 ((bytesRow s (grownCap w s.size 0 5)).size, (bytesRow s (grownCap w s.size 0 5)).size + 1)) := heap_alloc_new w.drew _
    simp only [World.cell?, hh]
    simpa using hv

/-- A string behind its first byte. -/
def tailS (s : ByteArray) : ByteArray := s.extract 1 s.size
def bytesAll (s : ByteArray) : Bool := (strB s).all fun b => digitB b.toNat
def numB (s : ByteArray) : Bool := if signedB s then bytesAll (tailS s) && decide (0 < (tailS s).size) else bytesAll s && decide (0 < s.size)
theorem signedB_pos {s : ByteArray} (h : signedB s = true) : 1 ≤ s.size := by
  rcases Nat.eq_zero_or_pos s.size with h0 | h0
  · have : strB s = [] := List.length_eq_zero_iff.1 (by rw [strB_len]; exact h0)
    unfold signedB firstB at h
    rw [this] at h
    simp at h
  · exact h0
theorem tailS_size (s : ByteArray) : (tailS s).size = s.size - 1 := by unfold tailS; simp [ByteArray.size_extract]

theorem str_ne_empty (s : ByteArray) : (!s.toList.isEmpty) = decide (0 < s.size) := by
  rw [ByteArray.toList_eq, ← strB_len]
  show (!(strB s).isEmpty) = _
  cases strB s <;> simp

set_option maxRecDepth 100000 in
set_option maxHeartbeats 4000000 in
theorem isNumber_any (s : ByteArray) (w : World) (hs : s.size ≤ 1000000) : Calls Tryz.prog 52 #[.string s] w (Told (.bool (numB s)) w) := by
  have h1 := isSigned_any s w
  rcases hsg : signedB s with _ | _
  · rw [hsg] at h1
    have hne := hsg
    go_enter Tryz.func52, Tryz.ntmps52
    go_wp2_with fail
    refine h1.mono ?_
    rintro e wq ⟨rfl, hwq⟩; replace hwq := hwq.symm; subst hwq
    obtain ⟨cap, w2, hrun, hcap, hb2, hcells⟩ := conv_str s w
    have hcs : ∀ (j : Nat), j < s.size → ∃ b : UInt8, (strB s)[j]? = some b := fun j hj => ⟨_, List.getElem?_eq_getElem (by rw [strB_len]; exact hj)⟩
    have hszl : (strB s).length = s.size := strB_len _
    have HBA : Hid (bytesAll s = (strB s).all fun b => digitB b.toNat) := Lib.hid rfl
    go_wp2_with fail
    go_loopw [12] (fun i wr => ∃ k : Nat, k ≤ s.size ∧ i = .int .i64 k ∧ Hid (((strB s).take k).all (fun b => digitB b.toNat) = true) ∧ wr = w2) (fun i _ => s.size - (intOf i).toNat)
    case atStart => exact ⟨0, by omega, rfl, Lib.hid rfl, rfl⟩
    case round =>
      obtain ⟨k, hk, rfl, hall, rfl⟩ := hrel
      by_cases hlt : k < s.size
      · obtain ⟨b, hb⟩ := hcs k hlt
        have hc := hcells k b hb
        have hbl := b.toNat_lt
        have hlt' : (k : Int) < (s.size : Int) := by omega
        have hd := fun w => digit_any (b.toNat : Int) w ⟨by omega, by omega⟩
        have hw : wrap64 (b.toNat : Int) = b.toNat := by unfold wrap64; omega
        have htk : (strB s).take (k + 1) = (strB s).take k ++ [b] := by rw [List.take_add_one, hb]; rfl
        have hd1 : ((strB s).take (k + 1)).all (fun b => digitB b.toNat) = digitB b.toNat := by rw [htk, List.all_append, hall.out]; simp
        have HD := Lib.hid hd1; clear hd1
        have hfls : digitB b.toNat = false → bytesAll s = false := fun h => by
          rw [HBA.out, List.all_eq_false]
          exact ⟨b, List.mem_of_getElem? hb, by rw [h]; decide⟩
        have HF := Lib.hid hfls; clear hfls hcells hcs htk hall HBA
        generalize digitB b.toNat = r at *
        cases r
        · have hN : numB s = false := by unfold numB; rw [hsg, if_neg (by decide)]; rw [HF.out rfl]; rfl
          go_wp2_with (go_at_call 104; refine (hd _).mono ?_; rintro e wq ⟨rfl, hwq⟩; replace hwq := hwq.symm; subst hwq)
          go_ret
          exact ⟨by rw [hN]; rfl, hb2⟩
        · go_wp2_with (go_at_call 104; refine (hd _).mono ?_; rintro e wq ⟨rfl, hwq⟩; replace hwq := hwq.symm; subst hwq)
          go_roundw
          case rel => exact ⟨k + 1, by omega, by go_num, HD, by first | rfl | trivial⟩
          case measure => simp [intOf]; omega
      · have hke : k = s.size := by omega
        have hA : bytesAll s = true := by rw [HBA.out, ← hall.out, hke, ← hszl, List.take_length]
        have hN : numB s = decide (0 < s.size) := by unfold numB; rw [hsg, if_neg (by decide)]; rw [hA]; rfl
        have HE := Lib.hid (str_ne_empty s)
        subst hke
        clear hcells hcs hall HBA hA
        go_wp2
        go_ret
        exact ⟨by rw [hN, ← HE.out]; rfl, hb2⟩
  · have hs1 := signedB_pos hsg
    have hs1' : (1 : Int) ≤ (s.size : Int) := by omega
    have hT : s.extract 1 s.size = tailS s := rfl
    have htz := tailS_size s
    rw [hsg] at h1
    go_enter Tryz.func52, Tryz.ntmps52
    go_wp2_with fail
    refine h1.mono ?_
    rintro e wq ⟨rfl, hwq⟩; replace hwq := hwq.symm; subst hwq
    have htz' : (tailS s).size ≤ 1000000 := by omega
    clear htz
    generalize hG : tailS s = t at *
    have HG := Lib.hid hG; clear hG
    obtain ⟨cap, w2, hrun, hcap, hb2, hcells⟩ := conv_str t w
    have hcs : ∀ (j : Nat), j < t.size → ∃ b : UInt8, (strB t)[j]? = some b := fun j hj => ⟨_, List.getElem?_eq_getElem (by rw [strB_len]; exact hj)⟩
    have hszl : (strB t).length = t.size := strB_len _
    have HBA : Hid (bytesAll t = (strB t).all fun b => digitB b.toNat) := Lib.hid rfl
    go_wp2_with fail
    go_loopw [12] (fun i wr => ∃ k : Nat, k ≤ t.size ∧ i = .int .i64 k ∧ Hid (((strB t).take k).all (fun b => digitB b.toNat) = true) ∧ wr = w2) (fun i _ => t.size - (intOf i).toNat)
    case atStart => exact ⟨0, by omega, rfl, Lib.hid rfl, rfl⟩
    case round =>
      obtain ⟨k, hk, rfl, hall, rfl⟩ := hrel
      by_cases hlt : k < t.size
      · obtain ⟨b, hb⟩ := hcs k hlt
        have hc := hcells k b hb
        have hbl := b.toNat_lt
        have hlt' : (k : Int) < (t.size : Int) := by omega
        have hd := fun w => digit_any (b.toNat : Int) w ⟨by omega, by omega⟩
        have hw : wrap64 (b.toNat : Int) = b.toNat := by unfold wrap64; omega
        have htk : (strB t).take (k + 1) = (strB t).take k ++ [b] := by rw [List.take_add_one, hb]; rfl
        have hd1 : ((strB t).take (k + 1)).all (fun b => digitB b.toNat) = digitB b.toNat := by rw [htk, List.all_append, hall.out]; simp
        have HD := Lib.hid hd1; clear hd1
        have hfls : digitB b.toNat = false → bytesAll t = false := fun h => by
          rw [HBA.out, List.all_eq_false]
          exact ⟨b, List.mem_of_getElem? hb, by rw [h]; decide⟩
        have HF := Lib.hid hfls; clear hfls hcells hcs htk hall HBA
        generalize digitB b.toNat = r at *
        cases r
        · have hN : numB s = false := by unfold numB; rw [hsg, if_pos rfl, HG.out]; rw [HF.out rfl]; rfl
          go_wp2_with (go_at_call 104; refine (hd _).mono ?_; rintro e wq ⟨rfl, hwq⟩; replace hwq := hwq.symm; subst hwq)
          go_ret
          exact ⟨by rw [hN]; rfl, hb2⟩
        · go_wp2_with (go_at_call 104; refine (hd _).mono ?_; rintro e wq ⟨rfl, hwq⟩; replace hwq := hwq.symm; subst hwq)
          go_roundw
          case rel => exact ⟨k + 1, by omega, by go_num, HD, by first | rfl | trivial⟩
          case measure => simp [intOf]; omega
      · have hke : k = t.size := by omega
        have hA : bytesAll t = true := by rw [HBA.out, ← hall.out, hke, ← hszl, List.take_length]
        have hN : numB s = decide (0 < t.size) := by unfold numB; rw [hsg, if_pos rfl, HG.out]; rw [hA]; rfl
        have HE := Lib.hid (str_ne_empty t)
        subst hke
        clear hcells hcs hall HBA hA
        go_wp2
        go_ret
        exact ⟨by rw [hN, ← HE.out]; rfl, hb2⟩
end

section
open Go.RowKit

def noTk : Tk := ⟨-1, 0, 0, [], [], false⟩
def tkAt (ts : List Tk) (k : Nat) : Tk := ts[k]?.getD noTk
def wholeT (t : Tk) (kind : Int) : Bool := decide (t.kind = kind) && t.whole && numB (strOfNums t.num)
def signT (t : Tk) (s : ByteArray) : Bool := decide (t.kind = 9) && ((strOfNums t.text).toList == s.toList)
def plainT (ts : List Tk) (k : Nat) : Bool := decide (k < ts.length) && wholeT (tkAt ts k) 10 && !signedB (strOfNums (tkAt ts k).num)
def blGo : Nat → List Tk → Nat → Nat
  | 0, _, k => k
  | f + 1, ts, k => if (tkAt ts k).kind = 13 then blGo f ts (k + 1) else k
def blF (ts : List Tk) (k : Nat) : Nat := blGo (ts.length + 1) ts k

set_option maxRecDepth 100000 in
set_option maxHeartbeats 1000000 in
theorem isWhole_any (t : Tk) (kind : Int) (w : World) (hs : (strOfNums t.num).size ≤ 1000000) :
    Calls Tryz.prog 49 #[tkV t, .int .i64 kind] w (Told (.bool (wholeT t kind)) w) := by
  have hn := fun w => isNumber_any (strOfNums t.num) w hs
  have hq : (t.kind == kind) = decide (t.kind = kind) := rfl
  unfold wholeT tkV tkCells
  generalize numB (strOfNums t.num) = r2 at *
  generalize t.whole = r1 at *
  generalize decide (t.kind = kind) = r0 at *
  cases r0
  · go_enter Tryz.func49, Tryz.ntmps49
    go_wp2
    go_ret
    exact ⟨rfl, (Below.refl _ w).alloc (Nat.le_refl _) _⟩
  · cases r1
    · go_enter Tryz.func49, Tryz.ntmps49
      go_wp2
      go_ret
      exact ⟨rfl, (Below.refl _ w).alloc (Nat.le_refl _) _⟩
    · go_enter Tryz.func49, Tryz.ntmps49
      go_wp2_with (go_at_call 52; refine (hn _).mono ?_; rintro e w2 ⟨rfl, hb2⟩)
      go_ret
      exact ⟨rfl, ((Below.refl _ w).alloc (Nat.le_refl _) _).trans (hb2.mono (by simp))⟩

set_option maxRecDepth 100000 in
set_option maxHeartbeats 1000000 in
theorem isSign_any (t : Tk) (s : ByteArray) (w : World) :
    Calls Tryz.prog 99 #[tkV t, .string s] w (Told (.bool (signT t s)) w) := by
  have hq : (t.kind == 9) = decide (t.kind = 9) := rfl
  unfold signT tkV tkCells
  generalize decide (t.kind = 9) = r0 at *
  cases r0
  · go_enter Tryz.func99, Tryz.ntmps99
    go_wp2
    go_ret
    exact ⟨rfl, (Below.refl _ w).alloc (Nat.le_refl _) _⟩
  · go_enter Tryz.func99, Tryz.ntmps99
    go_wp2
    go_ret
    exact ⟨by first | rfl | simp, (Below.refl _ w).alloc (Nat.le_refl _) _⟩

/-- The cells of a token of a list. -/
theorem flat_cell : ∀ (ts : List Tk) (k : Nat) (_ : k < ts.length) (j : Nat) (v : Value), (tkCells (tkAt ts k))[j]? = some v → (ts.flatMap tkCells)[k * 6 + j]? = some v
  | [], k, h, _, _, _ => by simp at h
  | t :: ts, 0, _, j, v, hv => by
    have hj : j < (tkCells t).length := (List.getElem?_eq_some_iff.1 hv).1
    rw [List.flatMap_cons, List.getElem?_append_left (by simpa using hj)]
    have h0 : 0 * 6 + j = j := by omega
    rw [h0]
    exact hv
  | t :: ts, k + 1, h, j, v, hv => by
    have hl : (tkCells t).length = 6 := rfl
    rw [List.flatMap_cons, List.getElem?_append_right (by rw [hl]; omega), hl, show (k + 1) * 6 + j - 6 = k * 6 + j from by omega]
    exact flat_cell ts k (by simpa using h) j v hv
theorem ReadsT.at {w : World} {a : Option Addr} {cap : Nat} {ts : List Tk} (h : ReadsT w a cap ts) : ∃ b, a = some ⟨b, 0, none⟩ ∧ ∀ (k : Nat), k < ts.length → ∀ (j : Nat) (v : Value), (tkCells (tkAt ts k))[j]? = some v → w.cell? ⟨b, k * 6 + j, none⟩ = some v := by
  obtain ⟨_, _, b, rfl, _, hc⟩ := h
  exact ⟨b, rfl, fun k hk j v hv => hc _ _ (flat_cell ts k hk j v hv)⟩

set_option maxRecDepth 100000 in
set_option maxHeartbeats 1000000 in
theorem ablanks_any (ts : List Tk) (n cap : Nat) (a : Option Addr) (i : Int) (k : Nat) (w : World) (h : ReadsT w a cap ts) (hn : ts.length = n) (_hsm : n ≤ 1000000) (hi : i = (k : Int)) (hk : k ≤ n) :
    Calls Tryz.prog 47 #[.slice a n cap, .int .i64 i] w (Tells (.int .i64 (blF ts k : Nat)) w) := by
  subst hi
  have hcap := h.1
  have hcap2 := h.2.1
  have hcap3 : cap ≤ 9223372036854775807 := hcap2
  obtain ⟨b, rfl, hc⟩ := h.at
  generalize hR : blF ts k = R
  unfold blF at hR
  rw [hn] at hR hcap
  have HR := Lib.hid hR; clear hR
  have HN := Lib.hid hn; clear hn h hcap2
  have hend : ∀ j, n ≤ j → ∀ f, blGo f ts j = j := fun j hj f => by
    cases f with
    | zero => rfl
    | succ f =>
      rw [blGo, if_neg]
      unfold tkAt
      rw [List.getElem?_eq_none (by rw [HN.out]; exact hj)]
      decide
  have HE := Lib.hid hend; clear hend
  have HC := Lib.hid hc; clear hc
  go_enter Tryz.func47, Tryz.ntmps47
  go_wp2_with fail
  go_loopw [1] (fun v wr => ∃ (f j : Nat), v = .int .i64 j ∧ Hid (blGo f ts j = R) ∧ n < j + f ∧ j ≤ n ∧ wr = w) (fun v _ => n - (intOf v).toNat)
  case atStart => exact ⟨n + 1, k, rfl, HR, by omega, hk, rfl⟩
  case round =>
    obtain ⟨f, j, rfl, hG, hf, hj, rfl⟩ := hrel
    by_cases hjn : j < n
    · have hjn' : (j : Int) < (n : Int) := by omega
      have c0 : wr.cell? ⟨b, j * 6, none⟩ = some (.int .i64 (tkAt ts j).kind) := HC.out j (by rw [HN.out]; exact hjn) 0 _ rfl
      obtain ⟨f, rfl⟩ : ∃ g, f = g + 1 := ⟨f - 1, by omega⟩
      by_cases h13 : (tkAt ts j).kind = 13
      · have hG2 : Hid (blGo f ts (j + 1) = R) := Lib.hid (by rw [← hG.out]; conv => rhs; rw [blGo, if_pos h13])
        rw [h13] at c0
        clear hG h13
        go_wp2
        go_roundw
        case rel => exact ⟨f, j + 1, by go_num, hG2, by omega, by omega, by first | rfl | trivial⟩
        case measure => simp [intOf]; omega
      · have hE : R = j := by rw [← hG.out, blGo, if_neg h13]
        have n13 : ((tkAt ts j).kind == 13) = false := beq_eq_false_iff_ne.2 h13
        clear hG h13
        generalize (tkAt ts j).kind = q at *
        go_wp2
        go_ret
        exact ⟨by rw [hE]; rfl, rfl⟩
    · have hE : R = j := by rw [← hG.out]; exact HE.out j (by omega) f
      have hjn' : ¬ (j : Int) < (n : Int) := by omega
      clear hG
      go_wp2
      go_ret
      exact ⟨by first | rfl | (rw [hE]; rfl), rfl⟩

set_option maxRecDepth 100000 in
set_option maxHeartbeats 1000000 in
theorem isPlain_any (ts : List Tk) (n cap : Nat) (a : Option Addr) (i : Int) (k : Nat) (w : World) (h : ReadsT w a cap ts) (hn : ts.length = n) (_hsm : n ≤ 1000000) (hi : i = (k : Int)) (hs : (strOfNums (tkAt ts k).num).size ≤ 1000000) :
    Calls Tryz.prog 102 #[.slice a n cap, .int .i64 i] w (Told (.bool (plainT ts k)) w) := by
  subst hi
  have hcap := h.1
  have hcap3 : cap ≤ 9223372036854775807 := h.2.1
  rw [hn] at hcap
  unfold plainT
  rw [hn]
  by_cases hkn : k < n
  · rw [decide_eq_true hkn, Bool.true_and]
    have hkn' : (k : Int) < (n : Int) := by omega
    have hlt : ∀ b, a = some ⟨b, 0, none⟩ → b < w.heap.size := fun b e => by obtain ⟨_, _, b', e', hb, _⟩ := h; rw [e] at e'; cases e'; exact hb
    obtain ⟨b, rfl, hc⟩ := h.at
    have hbl := hlt b rfl
    have c0 : w.cell? ⟨b, k * 6, none⟩ = some (.int .i64 (tkAt ts k).kind) := hc k (by rw [hn]; exact hkn) 0 _ rfl
    have c1 := hc k (by rw [hn]; exact hkn) 1 _ rfl
    have c2 := hc k (by rw [hn]; exact hkn) 2 _ rfl
    have c3 := hc k (by rw [hn]; exact hkn) 3 _ rfl
    have c4 := hc k (by rw [hn]; exact hkn) 4 _ rfl
    have c5 := hc k (by rw [hn]; exact hkn) 5 _ rfl
    have f0 := fun w => isWhole_any (tkAt ts k) 10 w hs
    have f1 := fun w => isSigned_any (strOfNums (tkAt ts k).num) w
    clear hc hlt h
    unfold tkV tkCells at f0
    generalize wholeT (tkAt ts k) 10 = r0 at *
    generalize signedB (strOfNums (tkAt ts k).num) = r1 at *
    generalize tkAt ts k = t at *
    cases r0
    · go_enter Tryz.func102, Tryz.ntmps102
      go_wp2_with (go_at_call 49; refine (f0 _).mono ?_; rintro e w2 ⟨rfl, hb2⟩)
      go_ret
      exact ⟨rfl, hb2⟩
    · cases r1
      all_goals
        go_enter Tryz.func102, Tryz.ntmps102
        go_wp2_with (first | (go_at_call 49; refine (f0 _).mono ?_; rintro e w2 ⟨rfl, hb2⟩; replace c4 := (hb2.cell (p := ⟨b, k * 6 + 4, none⟩) hbl).trans c4) | (go_at_call 103; refine (f1 _).mono ?_; rintro e w3 ⟨rfl, rfl⟩))
        go_ret
        exact ⟨rfl, hb2⟩
  · rw [decide_eq_false hkn]
    have hkn' : ¬ (k : Int) < (n : Int) := by omega
    go_enter Tryz.func102, Tryz.ntmps102
    go_wp2
    go_ret
    exact ⟨rfl, Below.refl _ _⟩
end

section
open Go.RowKit

theorem lowB_45 : lowB 45 = 45 := by decide
theorem lowB_32 : lowB 32 = 32 := by decide
theorem lowB_9 : lowB 9 = 9 := by decide
/-- A text as a condition looks at it. -/
def nF (fold : Bool) (x : List UInt8) : List UInt8 := if fold = true then x.map lowB else x
theorem nF_append (fold : Bool) (x y : List UInt8) : nF fold (x ++ y) = nF fold x ++ nF fold y := by cases fold <;> simp [nF]
theorem nF_len (fold : Bool) (x : List UInt8) : (nF fold x).length = x.length := by cases fold <;> simp [nF]
theorem nF_nil (fold : Bool) : nF fold [] = [] := by cases fold <;> rfl
theorem nF_one (fold : Bool) (b : UInt8) (h : lowB b = b) : nF fold [b] = [b] := by cases fold <;> simp [nF, h]
theorem holdsF_n (op : Int) (t : List UInt8) (fold : Bool) (v : List UInt8) : holdsF op t fold v = holdsT op (nF fold t) (nF fold v) := by cases fold <;> rfl

theorem holdsT_1 (t v : List UInt8) : holdsT 1 t v = true := rfl
theorem holdsT_2 (t v : List UInt8) : holdsT 2 t v = decide (v = t) := rfl
theorem holdsT_3 (t v : List UInt8) : holdsT 3 t v = decide (t ∈ words v) := rfl
theorem holdsT_4 (t v : List UInt8) : holdsT 4 t v = decide (t = v ∨ (t ++ [45]) <+: v) := rfl
theorem holdsT_5 (t v : List UInt8) : holdsT 5 t v = decide (t ≠ [] ∧ t <+: v) := rfl
theorem holdsT_6 (t v : List UInt8) : holdsT 6 t v = decide (t ≠ [] ∧ t <:+ v) := rfl
theorem holdsT_7 (t v : List UInt8) : holdsT 7 t v = decide (t ≠ [] ∧ t <:+: v) := rfl
theorem holdsT_cases {op : Int} {t v : List UInt8} (h : holdsT op t v = true) : op = 1 ∨ op = 2 ∨ op = 3 ∨ op = 4 ∨ op = 5 ∨ op = 6 ∨ op = 7 := by
  unfold holdsT at h
  by_cases h1 : op = 1
  · exact .inl h1
  by_cases h2 : op = 2
  · exact .inr (.inl h2)
  by_cases h3 : op = 3
  · exact .inr (.inr (.inl h3))
  by_cases h4 : op = 4
  · exact .inr (.inr (.inr (.inl h4)))
  by_cases h5 : op = 5
  · exact .inr (.inr (.inr (.inr (.inl h5))))
  by_cases h6 : op = 6
  · exact .inr (.inr (.inr (.inr (.inr (.inl h6)))))
  by_cases h7 : op = 7
  · exact .inr (.inr (.inr (.inr (.inr (.inr h7)))))
  · simp [h1, h2, h3, h4, h5, h6, h7] at h
theorem infix_of (t v : List UInt8) (p q : List UInt8) (h : t <:+: v) : t <:+: p ++ v ++ q := by
  obtain ⟨a, b, rfl⟩ := h
  exact ⟨p ++ a, b ++ q, by simp⟩

/-- The law ValueJoined. -/
theorem joined_7 (t v a b : List UInt8) (fold : Bool) (h : holdsF 7 t fold v = true) : holdsF 7 t fold (a ++ v ++ b) = true := by
  rw [holdsF_n, holdsT_7, decide_eq_true_eq] at h ⊢
  rw [nF_append, nF_append]
  exact ⟨h.1, infix_of _ _ _ _ h.2⟩
theorem joined_5 (t v b : List UInt8) (fold : Bool) (h : holdsF 5 t fold v = true) : holdsF 5 t fold (v ++ b) = true := by
  rw [holdsF_n, holdsT_5, decide_eq_true_eq] at h ⊢
  rw [nF_append]
  exact ⟨h.1, h.2.trans (List.prefix_append _ _)⟩
theorem joined_6 (t v a : List UInt8) (fold : Bool) (h : holdsF 6 t fold v = true) : holdsF 6 t fold (a ++ v) = true := by
  rw [holdsF_n, holdsT_6, decide_eq_true_eq] at h ⊢
  rw [nF_append]
  exact ⟨h.1, h.2.trans (List.suffix_append _ _)⟩
theorem joined_3 (t v a b : List UInt8) (fold : Bool) (h : holdsF 3 t fold v = true) : holdsF 3 t fold (a ++ [32] ++ v ++ [9] ++ b) = true := by
  rw [holdsF_n, holdsT_3, decide_eq_true_eq] at h ⊢
  rw [nF_append, nF_append, nF_append, nF_append, nF_one _ _ lowB_32, nF_one _ _ lowB_9]
  rw [show nF fold a ++ [32] ++ nF fold v ++ [9] ++ nF fold b = nF fold a ++ 32 :: (nF fold v ++ 9 :: nF fold b) by simp]
  rw [words_blank _ _ 32 (by decide), words_blank _ _ 9 (by decide)]
  simp [h]
theorem joined_4 (t v b : List UInt8) (fold : Bool) (h : holdsF 4 t fold v = true) : holdsF 4 t fold (v ++ [45] ++ b) = true := by
  rw [holdsF_n, holdsT_4, decide_eq_true_eq] at h ⊢
  rw [nF_append, nF_append, nF_one _ _ lowB_45]
  right
  rcases h with h | h
  · rw [h]; exact List.prefix_append _ _
  · rw [List.append_assoc]; exact h.trans (List.prefix_append _ _)

/-- What holds of any value holds of its own text. -/
theorem holdsT_self {op : Int} {t v : List UInt8} (h : holdsT op t v = true) : holdsT op t t = true := by
  rcases holdsT_cases h with rfl | rfl | rfl | rfl | rfl | rfl | rfl
  · rfl
  · rw [holdsT_2]; simp
  · rw [holdsT_3, decide_eq_true_eq] at h ⊢
    obtain ⟨h1, _, h3⟩ := words_mem h
    rw [words_self h1 h3]; simp
  · rw [holdsT_4]; simp
  · rw [holdsT_5, decide_eq_true_eq] at h ⊢; exact ⟨h.1, List.prefix_refl _⟩
  · rw [holdsT_6, decide_eq_true_eq] at h ⊢; exact ⟨h.1, List.suffix_refl _⟩
  · rw [holdsT_7, decide_eq_true_eq] at h ⊢; exact ⟨h.1, List.infix_refl _⟩
theorem holdsF_self {op : Int} {t v : List UInt8} {fold : Bool} (h : holdsF op t fold v = true) : holdsF op t fold t = true := by
  rw [holdsF_n] at h ⊢; exact holdsT_self h
theorem never_not {op : Int} {t v : List UInt8} {fold : Bool} (h : holdsF op t fold v = true) : neverF op t fold = false := by
  unfold neverF; rw [holdsF_self h]; rfl
/-- By the document: conditions that always hold of some value. -/
theorem never_some (op : Int) (t : List UInt8) (fold : Bool) (h : op = 1 ∨ op = 2 ∨ op = 4) : neverF op t fold = false := by
  unfold neverF
  rw [holdsF_n]
  rcases h with rfl | rfl | rfl
  · rfl
  · rw [holdsT_2]; simp
  · rw [holdsT_4]; simp
theorem holdsF_len {op : Int} {t v : List UInt8} {fold : Bool} (h : holdsF op t fold v = true) (h1 : op ≠ 1) : t.length ≤ v.length := by
  rw [holdsF_n] at h
  rw [← nF_len fold t, ← nF_len fold v]
  rcases holdsT_cases h with rfl | rfl | rfl | rfl | rfl | rfl | rfl
  · exact absurd rfl h1
  · rw [holdsT_2, decide_eq_true_eq] at h; rw [h]; exact Nat.le_refl _
  · rw [holdsT_3, decide_eq_true_eq] at h
    obtain ⟨_, h2, _⟩ := words_mem h
    exact h2.length_le
  · rw [holdsT_4, decide_eq_true_eq] at h
    rcases h with h | h
    · rw [h]; exact Nat.le_refl _
    · have := h.length_le; rw [List.length_append] at this; omega
  · rw [holdsT_5, decide_eq_true_eq] at h; exact h.2.length_le
  · rw [holdsT_6, decide_eq_true_eq] at h; exact h.2.length_le
  · rw [holdsT_7, decide_eq_true_eq] at h; exact h.2.length_le

/-- Whether two texts are one, as a condition looks at them. -/
def oneF (fold : Bool) (t u : List UInt8) : Bool := decide (nF fold t = nF fold u)
/-- What implies what, as the program tells it. -/
def implF (op : Int) (t : List UInt8) (fold : Bool) (op' : Int) (t' : List UInt8) (fold' : Bool) : Bool :=
  if neverF op t fold = true ∨ op' = 1 then true
  else if fold = true ∧ fold' = false then false
  else if op = 4 ∧ op' = 4 then oneF fold' t t'
  else if op = 2 ∨ op = op' ∨ (op' = 7 ∧ (op = 3 ∨ op = 5 ∨ op = 6)) then holdsF op' t' fold' t
  else false
/-- What implies what, by the document's rule. -/
def rimplF (op : Int) (t : List UInt8) (fold : Bool) (op' : Int) (t' : List UInt8) (fold' : Bool) : Bool :=
  if neverF op t fold = true ∨ op' = 1 then true
  else if fold = true ∧ fold' = false then false
  else if op = 2 then holdsF op' t' fold' t
  else if op = op' ∧ (op = 3 ∨ op = 4) then oneF fold' t t'
  else if op = op' ∧ 5 ≤ op ∧ op ≤ 7 then holdsF op' t' fold' t
  else decide (op = 3 ∨ op = 5 ∨ op = 6) && (decide (op' = 7) && holdsF op' t' fold' t)
theorem nF_up {op : Int} {t v : List UInt8} {fold fold' : Bool} (hf : ¬ (fold = true ∧ fold' = false)) (h : holdsT op (nF fold t) (nF fold v) = true) : holdsT op (nF fold' t) (nF fold' v) = true := by
  cases fold <;> cases fold'
  · exact h
  · exact holdsT_map h
  · simp at hf
  · exact h
theorem never_out {op : Int} {t : List UInt8} {fold : Bool} (h : ¬ neverF op t fold = true) : holdsT op (nF fold t) (nF fold t) = true := by
  unfold neverF at h
  rw [holdsF_n] at h
  cases hh : holdsT op (nF fold t) (nF fold t)
  · rw [hh] at h; simp at h
  · rfl
theorem impl_same (op : Int) (t : List UInt8) (fold : Bool) (op' : Int) (t' : List UInt8) (fold' : Bool) : implF op t fold op' t' fold' = rimplF op t fold op' t' fold' := by
  unfold implF rimplF
  by_cases h1 : neverF op t fold = true ∨ op' = 1
  · rw [if_pos h1, if_pos h1]
  rw [if_neg h1, if_neg h1]
  by_cases h2 : fold = true ∧ fold' = false
  · rw [if_pos h2, if_pos h2]
  rw [if_neg h2, if_neg h2]
  obtain ⟨hn, hop1⟩ := not_or.1 h1
  have hs := never_out hn
  by_cases h3 : op = 2
  · subst h3
    rw [if_neg (by omega), if_pos (by omega), if_pos rfl]
  rw [if_neg h3]
  by_cases h4 : op = op'
  · subst h4
    rcases holdsT_cases hs with rfl | rfl | rfl | rfl | rfl | rfl | rfl
    · exact absurd rfl hop1
    · exact absurd rfl h3
    · rw [if_neg (by omega), if_pos (by omega), if_pos (by omega)]
      have hu := nF_up (fold' := fold') h2 hs
      rw [holdsT_3, decide_eq_true_eq] at hu
      obtain ⟨w1, _, w3⟩ := words_mem hu
      rw [holdsF_n, holdsT_3, words_self w1 w3]
      unfold oneF
      rw [Bool.eq_iff_iff, decide_eq_true_eq, decide_eq_true_eq, List.mem_singleton]
      exact ⟨fun e => e.symm, fun e => e.symm⟩
    · rw [if_pos (by omega), if_pos (by omega)]
    all_goals rw [if_neg (by omega), if_pos (by omega), if_neg (by omega), if_pos (by omega)]
  · rw [if_neg (show ¬ (op = 4 ∧ op' = 4) by omega), if_neg (show ¬ (op = op' ∧ (op = 3 ∨ op = 4)) from fun h => h4 h.1), if_neg (show ¬ (op = op' ∧ 5 ≤ op ∧ op ≤ 7) from fun h => h4 h.1)]
    by_cases h5 : op' = 7
    · by_cases h6 : op = 3 ∨ op = 5 ∨ op = 6
      · rw [if_pos (by omega)]; simp [h5, h6]
      · rw [if_neg (by omega)]; simp [h6]
    · rw [if_neg (by omega)]; simp [h5]
/-- Where the rule tells it, it is so. -/
theorem impl_sound {op : Int} {t : List UInt8} {fold : Bool} {op' : Int} {t' : List UInt8} {fold' : Bool} (h : implF op t fold op' t' fold' = true) {v : List UInt8} (hv : holdsF op t fold v = true) : holdsF op' t' fold' v = true := by
  unfold implF at h
  have hnn := never_not hv
  by_cases h1 : neverF op t fold = true ∨ op' = 1
  · rcases h1 with h1 | rfl
    · rw [hnn] at h1; cases h1
    · rw [holdsF_n]; rfl
  rw [if_neg h1] at h
  by_cases h2 : fold = true ∧ fold' = false
  · rw [if_pos h2] at h; cases h
  rw [if_neg h2] at h
  rw [holdsF_n] at hv ⊢
  have hu := nF_up (fold' := fold') h2 hv
  by_cases h3 : op = 4 ∧ op' = 4
  · obtain ⟨rfl, rfl⟩ := h3
    rw [if_pos ⟨rfl, rfl⟩] at h
    unfold oneF at h
    rw [decide_eq_true_eq] at h
    rw [← h]; exact hu
  rw [if_neg h3] at h
  by_cases h4 : op = 2 ∨ op = op' ∨ (op' = 7 ∧ (op = 3 ∨ op = 5 ∨ op = 6))
  · rw [if_pos h4, holdsF_n] at h
    rcases h4 with rfl | rfl | ⟨rfl, h4⟩
    · rw [holdsT_2, decide_eq_true_eq] at hu; rw [hu]; exact h
    · rcases holdsT_cases hu with rfl | rfl | rfl | rfl | rfl | rfl | rfl
      · rfl
      · rw [holdsT_2, decide_eq_true_eq] at hu; rw [hu]; exact h
      · rw [holdsT_3, decide_eq_true_eq] at hu h ⊢
        obtain ⟨w1, _, w3⟩ := words_mem hu
        rw [words_self w1 w3, List.mem_singleton] at h
        rw [h]; exact hu
      · exact absurd ⟨rfl, rfl⟩ h3
      · rw [holdsT_5, decide_eq_true_eq] at hu h ⊢; exact ⟨h.1, h.2.trans hu.2⟩
      · rw [holdsT_6, decide_eq_true_eq] at hu h ⊢; exact ⟨h.1, h.2.trans hu.2⟩
      · rw [holdsT_7, decide_eq_true_eq] at hu h ⊢; exact ⟨h.1, h.2.trans hu.2⟩
    · rw [holdsT_7, decide_eq_true_eq] at h ⊢
      refine ⟨h.1, h.2.trans ?_⟩
      rcases h4 with rfl | rfl | rfl
      · rw [holdsT_3, decide_eq_true_eq] at hu; exact (words_mem hu).2.1
      · rw [holdsT_5, decide_eq_true_eq] at hu; exact hu.2.isInfix
      · rw [holdsT_6, decide_eq_true_eq] at hu; exact hu.2.isInfix
  · rw [if_neg h4] at h; cases h

/-- Does a text stand at a place of another one? -/
def atB (v : List UInt8) (i : Nat) (t : List UInt8) : Bool := decide (i + t.length ≤ v.length) && decide ((v.drop i).take t.length = t)
theorem atB_iff (v : List UInt8) (i : Nat) (t : List UInt8) (hi : i ≤ v.length) : atB v i t = true ↔ t <+: v.drop i := by
  unfold atB
  rw [Bool.and_eq_true, decide_eq_true_eq, decide_eq_true_eq]
  constructor
  · rintro ⟨_, h⟩
    rw [← h]; exact List.take_prefix _ _
  · intro h
    have hl := h.length_le
    rw [List.length_drop] at hl
    refine ⟨by omega, ?_⟩
    exact (List.prefix_iff_eq_take.1 h).symm
theorem at_begin (t v : List UInt8) (h0 : t ≠ []) : holdsT 5 t v = atB v 0 t := by
  rw [holdsT_5, Bool.eq_iff_iff, decide_eq_true_eq, atB_iff _ _ _ (Nat.zero_le _)]
  exact ⟨fun h => h.2, fun h => ⟨h0, h⟩⟩
theorem at_dash (t v : List UInt8) : holdsT 4 t v = (decide (t = v) || atB v 0 (t ++ [45])) := by
  rw [holdsT_4, Bool.eq_iff_iff, decide_eq_true_eq, Bool.or_eq_true, decide_eq_true_eq, atB_iff _ _ _ (Nat.zero_le _)]
  rfl
theorem at_end (t v : List UInt8) (h0 : t ≠ []) : holdsT 6 t v = (decide (t.length ≤ v.length) && atB v (v.length - t.length) t) := by
  rw [holdsT_6, Bool.eq_iff_iff, decide_eq_true_eq, Bool.and_eq_true, decide_eq_true_eq, atB_iff _ _ _ (by omega)]
  constructor
  · rintro ⟨_, h⟩
    have e := List.suffix_iff_eq_drop.1 h
    exact ⟨h.length_le, by rw [← e]; exact List.prefix_refl _⟩
  · rintro ⟨hl, h⟩
    refine ⟨h0, ?_⟩
    have e : t = v.drop (v.length - t.length) := h.eq_of_length (by rw [List.length_drop]; omega)
    exact List.suffix_iff_eq_drop.2 e
/-- Whether a text stands at one of the first k places. -/
def someAt (v t : List UInt8) (k : Nat) : Bool := (List.range k).any fun i => atB v i t
theorem someAt_succ (v t : List UInt8) (k : Nat) : someAt v t (k + 1) = (someAt v t k || atB v k t) := by unfold someAt; rw [List.range_succ, List.any_append]; simp
theorem at_part (t v : List UInt8) (h0 : t ≠ []) : holdsT 7 t v = someAt v t v.length := by
  rw [holdsT_7, Bool.eq_iff_iff, decide_eq_true_eq]
  unfold someAt
  rw [List.any_eq_true]
  constructor
  · rintro ⟨_, a, b, rfl⟩
    have hl : 0 < t.length := List.length_pos_iff.2 h0
    refine ⟨a.length, by rw [List.mem_range]; simp <;> omega, ?_⟩
    rw [atB_iff _ _ _ (by simp)]
    rw [List.append_assoc, List.drop_left]
    exact List.prefix_append _ _
  · rintro ⟨i, hi, h⟩
    rw [List.mem_range] at hi
    rw [atB_iff _ _ _ (by omega)] at h
    exact ⟨h0, h.isInfix.trans (List.drop_suffix _ _).isInfix⟩
theorem at_word (t v : List UInt8) (hb : t.any blankB = true ∨ t = []) : holdsT 3 t v = false := by
  rw [holdsT_3, decide_eq_false_iff_not]
  intro h
  obtain ⟨h1, _, h3⟩ := words_mem h
  rcases hb with hb | hb
  · rw [List.any_eq_true] at hb
    obtain ⟨b, h5, h6⟩ := hb
    rw [h3 b h5] at h6; cases h6
  · exact h1 hb
end

section
open Go.RowKit

/-- What the conversion of a string to bytes lays: it may be written. -/
theorem conv_strW (s : ByteArray) (w : World) : ∃ cap w', (convert 9 22 (.string s)).run Tryz.prog w = .ok (.slice (some ⟨w.heap.size, 0, none⟩) s.size cap) w' ∧ s.size ≤ cap ∧ Below w.heap.size w w' ∧ w'.heap.size = w.heap.size + 1 ∧
    (∀ (j : Nat) (b : UInt8), (strB s)[j]? = some b → w'.cell? ⟨w.heap.size, j, none⟩ = some (.int .u8 b.toNat)) ∧ ∀ j, j < s.size → w'.frozen? ⟨w.heap.size, j, none⟩ = false := by
  have hh := heap_alloc_new w.drew (.cells (bytesRow s (grownCap w s.size 0 5)) 5 ((bytesRow s (grownCap w s.size 0 5)).size, (bytesRow s (grownCap w s.size 0 5)).size + 1))
  refine ⟨_, _, run_bytes_of_string w 9 22 5 s Tryz.underlying9 Tryz.underlying22 Tryz.underlying5, grownCap_ge _ _ _ _, ((Below.refl _ w).drew).alloc (Nat.le_refl _) _, by simp, fun j b hb => ?_, fun j hj => ?_⟩
  · have hj : j < (strB s).length := (List.getElem?_eq_some_iff.1 hb).1
    have hjs : j < s.data.size := by unfold strB at hj; simpa using hj
    have hv : (bytesRow s (grownCap w s.size 0 5))[j]? = some (Value.int .u8 b.toNat) := by
      unfold bytesRow
      rw [Array.getElem?_append_left (by simpa using hjs), Array.getElem?_map]
      have : s.data[j]? = some b := by rw [← hb]; unfold strB; simp
      rw [this]; rfl
    show World.cell? _ ⟨w.drew.heap.size, j, none⟩ = _
    simp only [World.cell?, hh]
    simpa using hv
  · have hsz : s.size ≤ (bytesRow s (grownCap w s.size 0 5)).size := by
      unfold bytesRow
      rw [Array.size_append, Array.size_map]
      exact Nat.le_add_right _ _
    show World.frozen? _ ⟨w.drew.heap.size, j, none⟩ = _
    simp only [World.frozen?, hh]
    simp
    omega

theorem conv3_any {P : Program} (w : World) (src e dst : TypeId) (hs : P.underlying src = some (.slice e)) (he : P.underlying e = some (.int .u8)) (hd : P.underlying dst = some .string)
    (a : Option Addr) (n cap : Nat) (zs : List Int) (hn : zs.length = n) (hr : Reads w .u8 a cap zs) : (convert src dst (.slice a n cap)).run P w = .ok (.string (strOfNums zs)) w := by
  by_cases h0 : zs = []
  · subst h0; subst hn
    rw [run_convert_bytes_string w src dst e _ _ cap hs he hd]
    cases a with
    | none => simp [Conv.bytesToString]; rfl
    | some ad => simp [Conv.bytesToString, loadCells, loadCellsFrom]; rfl
  · obtain ⟨b, off, rfl, hat⟩ := hr.2.2.resolve_left h0
    exact run_convert_bytes_arg w src e hs he b off n cap zs hn (fun i hi => by rw [List.getD_eq_getElem?_getD]; exact hat.2 i (by rw [hn]; exact hi)) dst hd

/-- The small letters of bytes. -/
def lowL (bs : List UInt8) : List Int := bs.map fun b => smallF b.toNat
/-- A text with small letters. -/
def lowS (s : ByteArray) : ByteArray := strOfNums (lowL (strB s))
theorem smallF_byte (b : UInt8) : 0 ≤ smallF b.toNat ∧ smallF b.toNat ≤ 255 := by
  have h := b.toNat_lt
  unfold smallF; split <;> omega
theorem lowL_len (s : ByteArray) : (lowL (strB s)).length = s.size := by unfold lowL; rw [List.length_map, strB_len]
theorem lowS_size (s : ByteArray) : (lowS s).size = s.size := by unfold lowS; rw [strOfNums_size, lowL_len]

set_option maxRecDepth 100000 in
set_option maxHeartbeats 1000000 in
theorem lower_any (s : ByteArray) (w : World) (hsz : s.size ≤ 9223372036854775807) : Calls Tryz.prog 97 #[.string s] w (Told (.string (lowS s)) w) := by
  obtain ⟨cap, w2, hrun, hcap, hb2, hz2, hcells, hfz⟩ := conv_strW s w
  have hcs : ∀ (j : Nat), j < s.size → ∃ b : UInt8, (strB s)[j]? = some b := fun j hj => ⟨_, List.getElem?_eq_getElem (by rw [strB_len]; exact hj)⟩
  have hcap' : (s.size : Int) ≤ (cap : Int) := by omega
  have HC := Lib.hid hcells
  have HF := Lib.hid hfz
  have HS := Lib.hid hcs
  clear hcells hfz hcs
  go_enter Tryz.func97, Tryz.ntmps97
  go_wp2_with fail
  go_loopw [10] (fun i wr => ∃ k : Nat, k ≤ s.size ∧ i = .int .i64 k ∧ Below w.heap.size w wr ∧ Hid (∀ (j : Nat) (b : UInt8), (strB s)[j]? = some b → wr.cell? ⟨w.heap.size, j, none⟩ = some (.int .u8 (if j < k then smallF b.toNat else b.toNat))) ∧ Hid (∀ j, j < s.size → wr.frozen? ⟨w.heap.size, j, none⟩ = false)) (fun i _ => s.size - (intOf i).toNat)
  case atStart => exact ⟨0, by omega, rfl, hb2, Lib.hid (fun j b hb => by simpa using HC.out j b hb), HF⟩
  case round =>
    obtain ⟨k, hk, rfl, hbr, hc, hf⟩ := hrel
    by_cases hlt : k < s.size
    · obtain ⟨b, hb⟩ := HS.out k hlt
      have c0 : wr.cell? ⟨w.heap.size, k, none⟩ = some (.int .u8 b.toNat) := by have := hc.out k b hb; rwa [if_neg (Nat.lt_irrefl k)] at this
      have f0 := hf.out k hlt
      have hbl := b.toNat_lt
      have hlt' : (k : Int) < (s.size : Int) := by omega
      have hsm := fun w => small_any (b.toNat : Int) w ⟨by omega, by omega⟩
      have hw : wrap64 (b.toNat : Int) = b.toNat := by unfold wrap64; omega
      have hx := smallF_byte b
      have HN : Hid (∀ (j : Nat) (d : UInt8), (strB s)[j]? = some d → (wr.setCell ⟨w.heap.size, k, none⟩ (.int .u8 (smallF b.toNat))).cell? ⟨w.heap.size, j, none⟩ = some (.int .u8 (if j < k + 1 then smallF d.toNat else d.toNat))) := by
        refine Lib.hid (fun j d hd => ?_)
        by_cases hj : j = k
        · subst hj
          obtain rfl : d = b := by rw [hb] at hd; exact (Option.some.inj hd).symm
          rw [World.cell?_setCell_same' _ _ _ (by rw [c0]; rfl), if_pos (Nat.lt_succ_self _)]
        · rw [World.cell?_setCell_other _ _ _ _ (by intro h; injection h with _ h2 _; omega), hc.out j d hd]
          by_cases h2 : j < k
          · rw [if_pos h2, if_pos (by omega)]
          · rw [if_neg h2, if_neg (by omega)]
      have HG : Hid (∀ j, j < s.size → (wr.setCell ⟨w.heap.size, k, none⟩ (.int .u8 (smallF b.toNat))).frozen? ⟨w.heap.size, j, none⟩ = false) := Lib.hid (fun j hj => by rw [World.frozen?_setCell]; exact hf.out j hj)
      have hb3 : Below w.heap.size w (wr.setCell ⟨w.heap.size, k, none⟩ (.int .u8 (smallF b.toNat))) := hbr.setCell (p := ⟨w.heap.size, k, none⟩) (Nat.le_refl _) _
      clear hc hf HC HF HS

      generalize smallF b.toNat = x at *
      go_wp2_with (go_at_call 96; refine (hsm _).mono ?_; rintro e wq ⟨rfl, hwq⟩; replace hwq := hwq.symm; subst hwq)
      go_roundw
      case rel => exact ⟨k + 1, by omega, by go_num, hb3, HN, HG⟩
      case measure => simp [intOf]; omega
    · have hke : k = s.size := by omega
      subst hke
      have cv := run_convert_bytes_arg wr 22 5 Tryz.underlying22 Tryz.underlying5 w.heap.size 0 s.size cap (lowL (strB s)) (lowL_len s) (fun i hi => by
        obtain ⟨b, hb⟩ := HS.out i hi
        have h := hc.out i b hb
        rw [if_pos hi] at h
        rw [Nat.zero_add, h]
        unfold lowL
        rw [List.getD_eq_getElem?_getD, List.getElem?_map, hb]
        rfl) 9 Tryz.underlying9
      clear hc hf HC HF HS
      have hL : strOfNums (lowL (strB s)) = lowS s := rfl
      rw [hL] at cv
      go_wp2
      go_ret
      exact ⟨rfl, hbr⟩
theorem low_snoc (s : ByteArray) (k : Nat) (h : k < s.size) : (lowL (strB s)).take (k + 1) = (lowL (strB s)).take k ++ [smallF (((s[k]'h).toNat : Nat) : Int)] := by
  have hk : (lowL (strB s))[k]? = some (smallF (((s[k]'h).toNat : Nat) : Int)) := by
    unfold lowL strB
    rw [List.getElem?_map]
    have : s.data.toList[k]? = some (s[k]'h) := by
      rw [Array.getElem?_toList, Array.getElem?_eq_getElem (by exact h)]; rfl
    rw [this]; rfl
  rw [List.take_add_one, hk]; rfl

set_option maxRecDepth 100000 in
set_option maxHeartbeats 2000000 in
theorem rlower_any (s : ByteArray) (w : World) (hs : s.size ≤ 1000000) : Calls Tryz.prog 57 #[.string s] w (Told (.string (lowS s)) w) := by
  obtain ⟨i0, hi, hz0, hz1, hz2⟩ := info_parts Tryz.info5
  have own0 := World.ownsRow_made (base := w.heap.size) (e := 5) (size := 1) w #[] 0 (Nat.le_refl _) (by simp [maxLen]) (by simp)
  go_enter Tryz.func57, Tryz.ntmps57
  go_wp2
  go_loopw [3, 4] (fun v i wr => ∃ k : Nat, k ≤ s.size ∧ i = .int .i64 k ∧ wr.ownsRow w.heap.size 5 1 v k (((lowL (strB s)).take k).map (Value.int .u8)) ∧ Below w.heap.size w wr)
    (fun _ i _ => s.size - (intOf i).toNat)
  case atStart => exact ⟨0, by omega, rfl, own0, (Below.refl _ w).alloc (Nat.le_refl _) _⟩
  case round =>
    obtain ⟨k, hk, rfl, hown, hbl⟩ := hrel
    by_cases hlt : k < s.size
    · have hlt' : (k : Int) < (s.size : Int) := by omega
      have HT := Lib.hid (low_snoc s k hlt)
      have hll : ((lowL (strB s)).take k).length = k := by rw [List.length_take, lowL_len]; omega
      have hbl8 := (s[k]'hlt).toNat_lt
      have hsm := fun w => rsmall_any (((s[k]'hlt).toNat : Nat) : Int) w ⟨by omega, by omega⟩
      have hw : wrap64 (((s[k]'hlt).toNat : Nat) : Int) = (s[k]'hlt).toNat := by unfold wrap64; omega
      have hx := smallF_byte (s[k]'hlt)
      have hsz := hbl.size
      have HLL := Lib.hid hll; clear hll
      generalize (lowL (strB s)).take k = acc at *
      generalize smallF (((s[k]'hlt).toNat : Nat) : Int) = x at *
      go_wp2_with (first
        | (go_at_call 107; refine (hsm _).mono ?_; rintro e wq ⟨rfl, hwq⟩; replace hwq := hwq.symm; subst hwq)
        | (at_builtin; refine wpList_append_reads rfl _ _ 22 rfl w.heap.size 5 i0 .u8 1 Tryz.underlying22 hi hz0 hz1 hz2 _ k acc rfl (hown.alloc _) HLL.out (some ⟨wr.heap.size, 0, none⟩) 1 1 [x] rfl rfl (reads_new wr .u8 _ 5 1 rfl (by unfold maxLen; omega)) (fun h => by cases h) (by unfold maxLen; omega) (by omega) (by simp <;> omega) ?_; intro v' w2 hown2 hgrow2))
      have hbl2 : Below w.heap.size w w2 := (hbl.alloc hsz _).grown hgrow2 (by simp <;> omega) (fun j hj => (hown.lt j hj).1)
      go_roundw
      case rel => exact ⟨k + 1, by omega, by go_num, by rw [HT.out]; have := hown2; rw [List.length_append, HLL.out] at this; exact this, hbl2⟩
      case measure => simp [intOf]; omega
    · obtain rfl : k = s.size := by omega
      have he : (lowL (strB s)).take s.size = lowL (strB s) := by rw [List.take_of_length_le (by rw [lowL_len]; omega)]
      have HL := Lib.hid (lowL_len s)
      rw [he] at hown
      have hS : strOfNums (lowL (strB s)) = lowS s := rfl
      generalize lowL (strB s) = ys at *
      rw [← HL.out] at hown
      obtain ⟨a, cp, hv, hrd⟩ := Reads.of_owns hown
      rw [HL.out] at hv
      clear he hown
      subst hv
      have cv := conv3_any wr 22 5 9 Tryz.underlying22 Tryz.underlying5 Tryz.underlying9 a s.size cp ys HL.out hrd
      rw [hS] at cv
      go_wp2
      go_ret
      exact ⟨rfl, hbl⟩
def sameB (a b : ByteArray) : Bool := decide (lowL (strB a) = lowL (strB b))
theorem sameB_len {a b : ByteArray} (h : a.size ≠ b.size) : sameB a b = false := by
  unfold sameB
  refine decide_eq_false (fun e => h ?_)
  rw [← lowL_len a, ← lowL_len b, e]
theorem lowL_at (s : ByteArray) (k : Nat) (h : k < s.size) : (lowL (strB s))[k]? = some (smallF (((s[k]'h).toNat : Nat) : Int)) := by
  unfold lowL strB
  rw [List.getElem?_map]
  have : s.data.toList[k]? = some (s[k]'h) := by
    rw [Array.getElem?_toList, Array.getElem?_eq_getElem (by exact h)]; rfl
  rw [this]; rfl
theorem sameB_not {a b : ByteArray} {k : Nat} (ha : k < a.size) (hb : k < b.size) (h : smallF (((a[k]'ha).toNat : Nat) : Int) ≠ smallF (((b[k]'hb).toNat : Nat) : Int)) : sameB a b = false := by
  unfold sameB
  refine decide_eq_false (fun e => h ?_)
  have h1 := lowL_at a k ha
  rw [e, lowL_at b k hb] at h1
  exact (Option.some.inj h1).symm

set_option maxRecDepth 100000 in
set_option maxHeartbeats 2000000 in
theorem same_any (a b : ByteArray) (w : World) (hs : a.size ≤ 1000000) : Calls Tryz.prog 48 #[.string a, .string b] w (Told (.bool (sameB a b)) w) := by
  by_cases hl : a.size = b.size
  · have n0 : ((a.size : Int) == (b.size : Int)) = true := beq_iff_eq.2 (by omega)
    go_enter Tryz.func48, Tryz.ntmps48
    go_wp2
    go_loopw [13] (fun i wr => ∃ k : Nat, k ≤ a.size ∧ i = .int .i64 k ∧ Hid ((lowL (strB a)).take k = (lowL (strB b)).take k) ∧ Below w.heap.size w wr) (fun i _ => a.size - (intOf i).toNat)
    case atStart => exact ⟨0, by omega, rfl, Lib.hid rfl, Below.refl _ _⟩
    case round =>
      obtain ⟨k, hk, rfl, ht, hbl⟩ := hrel
      by_cases hlt : k < a.size
      · have hltb : k < b.size := by omega
        have hlt' : (k : Int) < (a.size : Int) := by omega
        have ha8 := (a[k]'hlt).toNat_lt
        have hb8 := (b[k]'hltb).toNat_lt
        have hA := fun w => small_any (((a[k]'hlt).toNat : Nat) : Int) w ⟨by omega, by omega⟩
        have hB := fun w => small_any (((b[k]'hltb).toNat : Nat) : Int) w ⟨by omega, by omega⟩
        have hwa : wrap64 (((a[k]'hlt).toNat : Nat) : Int) = (a[k]'hlt).toNat := by unfold wrap64; omega
        have hwb : wrap64 (((b[k]'hltb).toNat : Nat) : Int) = (b[k]'hltb).toNat := by unfold wrap64; omega
        have HT : Hid (smallF (((a[k]'hlt).toNat : Nat) : Int) = smallF (((b[k]'hltb).toNat : Nat) : Int) → (lowL (strB a)).take (k + 1) = (lowL (strB b)).take (k + 1)) := Lib.hid (fun e => by rw [low_snoc a k hlt, low_snoc b k hltb, ht.out, e])
        have HN : Hid (smallF (((a[k]'hlt).toNat : Nat) : Int) ≠ smallF (((b[k]'hltb).toNat : Nat) : Int) → sameB a b = false) := Lib.hid (fun h => sameB_not hlt hltb h)
        clear ht
        generalize smallF (((a[k]'hlt).toNat : Nat) : Int) = x at *
        generalize smallF (((b[k]'hltb).toNat : Nat) : Int) = y at *
        by_cases hxy : x = y
        · have hT := Lib.hid (HT.out hxy)
          clear HT HN
          subst hxy
          have n1 : (x == x) = true := beq_self_eq_true x
          go_wp2_with fail
          go_quiet ((go_at_call 96; first | with_reducible exact Calls.quiet_of_same (hA _) | with_reducible exact Calls.quiet_of_same (hB _)))
          go_wp2
          go_roundw
          case rel => exact ⟨k + 1, by omega, by go_num, hT, below_drewN hbl _⟩
          case measure => simp [intOf]; omega
        · have hN := HN.out hxy
          have n1 : (x == y) = false := beq_eq_false_iff_ne.2 hxy
          clear HT HN hxy
          go_wp2_with fail
          go_quiet ((go_at_call 96; first | with_reducible exact Calls.quiet_of_same (hA _) | with_reducible exact Calls.quiet_of_same (hB _)))
          go_wp2
          go_ret
          exact ⟨by rw [hN]; rfl, below_drewN hbl _⟩
      · obtain rfl : k = a.size := by omega
        have hS : sameB a b = true := by
          unfold sameB
          have e := ht.out
          rw [List.take_of_length_le (by rw [lowL_len]; omega), List.take_of_length_le (by rw [lowL_len]; omega)] at e
          exact decide_eq_true e
        clear ht
        go_wp2
        go_ret
        exact ⟨by rw [hS]; rfl, hbl⟩
  · have n0 : ((a.size : Int) == (b.size : Int)) = false := beq_eq_false_iff_ne.2 (by omega)
    have hN := sameB_len hl
    go_enter Tryz.func48, Tryz.ntmps48
    go_wp2
    go_ret
    exact ⟨by rw [hN]; rfl, Below.refl _ _⟩

theorem lowL_low (bs : List UInt8) : (lowL bs).map (fun n => UInt8.ofNat n.toNat) = bs.map lowB := by
  unfold lowL
  rw [List.map_map]
  refine List.map_congr_left (fun b _ => ?_)
  have h : ∀ b : Fin 256, ((fun n : Int => UInt8.ofNat n.toNat) ∘ fun b : UInt8 => smallF (b.toNat : Int)) (UInt8.ofNat b.val) = lowB (UInt8.ofNat b.val) := by decide +kernel
  have := h ⟨b.toNat, b.toNat_lt⟩
  simpa using this
theorem strB_low (s : ByteArray) : strB (lowS s) = (strB s).map lowB := lowL_low (strB s)
theorem sameB_low (a b : ByteArray) : sameB a b = decide ((strB a).map lowB = (strB b).map lowB) := by
  unfold sameB
  rw [Bool.eq_iff_iff, decide_eq_true_eq, decide_eq_true_eq, ← lowL_low, ← lowL_low]
  constructor
  · intro h; rw [h]
  · intro h
    have hb : ∀ bs : List UInt8, lowL bs = ((lowL bs).map fun n => UInt8.ofNat n.toNat).map fun b => (b.toNat : Int) := by
      intro bs
      unfold lowL
      rw [List.map_map, List.map_map]
      refine List.map_congr_left (fun b _ => ?_)
      have h : ∀ b : Fin 256, smallF ((UInt8.ofNat b.val).toNat : Int) = ((fun b : UInt8 => (b.toNat : Int)) ∘ (fun n : Int => UInt8.ofNat n.toNat) ∘ fun b : UInt8 => smallF (b.toNat : Int)) (UInt8.ofNat b.val) := by decide +kernel
      have := h ⟨b.toNat, b.toNat_lt⟩
      simpa using this
    rw [hb (strB a), h, ← hb]
end
end Go.Proofs.YtickcbmfboajiaaGreatDoor
