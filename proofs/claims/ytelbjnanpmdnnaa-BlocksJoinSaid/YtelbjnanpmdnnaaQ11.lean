/- Texts of mine in one: Pure. -/
import Derived.Test.YtelbjnanpmdnnaaQ08
namespace Go.Proofs.Ytelbjnanpmdnnaa
section
open Go.RowKit
theorem putF_1 (n a : Int) : putF n = [a] ↔ n < 128 ∧ n = a := by
  unfold putF; (repeat' split) <;> simp <;> omega
theorem putF_2 (n a b : Int) : putF n = [a, b] ↔ 128 ≤ n ∧ n < 2048 ∧ 192 + n / 64 = a ∧ 128 + n % 64 = b := by
  unfold putF; (repeat' split) <;> simp <;> omega
theorem putF_3 (n a b c : Int) : putF n = [a, b, c] ↔ 2048 ≤ n ∧ n < 65536 ∧ 224 + n / 4096 = a ∧ 128 + n / 64 % 64 = b ∧ 128 + n % 64 = c := by
  unfold putF; (repeat' split) <;> simp <;> omega
theorem putF_4 (n a b c d : Int) : putF n = [a, b, c, d] ↔ 65536 ≤ n ∧ 240 + n / 262144 = a ∧ 128 + n / 4096 % 64 = b ∧ 128 + n / 64 % 64 = c ∧ 128 + n % 64 = d := by
  unfold putF; (repeat' split) <;> simp <;> omega
theorem told_1 (a : Int) : toldF [a] = a := by simp [toldF, toldTo, headOf]
theorem told_2 (a b : Int) : toldF [a, b] = 64 * (a - 192) + b - 128 := by simp [toldF, toldTo, headOf]
theorem told_3 (a b c : Int) : toldF [a, b, c] = 64 * (64 * (a - 224) + b - 128) + c - 128 := by simp [toldF, toldTo, headOf]
theorem told_4 (a b c d : Int) : toldF [a, b, c, d] = 64 * (64 * (64 * (a - 240) + b - 128) + c - 128) + d - 128 := by simp [toldF, toldTo, headOf]
theorem lo_cases (a : Int) : (a = 224 ∧ loOf a = 160) ∨ (a = 240 ∧ loOf a = 144) ∨ (a ≠ 224 ∧ a ≠ 240 ∧ loOf a = 128) := by
  unfold loOf; (repeat' split) <;> omega
theorem hi_cases (a : Int) : (a = 237 ∧ hiOf a = 159) ∨ (a = 244 ∧ hiOf a = 143) ∨ (a ≠ 237 ∧ a ≠ 244 ∧ hiOf a = 191) := by
  unfold hiOf; (repeat' split) <;> omega
theorem whole_1 (a : Int) (ha : 0 ≤ a ∧ a ≤ 255) : wholeF [a] = true ↔ a < 128 := by
  unfold wholeF rightB
  rw [Bool.and_eq_true, decide_eq_true_iff, decide_eq_true_iff, told_1, putF_1]; omega
theorem whole_2 (a b : Int) (ha : 0 ≤ a ∧ a ≤ 255) (hb : 0 ≤ b ∧ b ≤ 255) : wholeF [a, b] = true ↔ 194 ≤ a ∧ a ≤ 223 ∧ 128 ≤ b ∧ b ≤ 191 := by
  unfold wholeF rightB
  rw [Bool.and_eq_true, decide_eq_true_iff, decide_eq_true_iff, told_2, putF_2]; omega
theorem whole_3 (a b c : Int) (ha : 0 ≤ a ∧ a ≤ 255) (hb : 0 ≤ b ∧ b ≤ 255) (hc : 0 ≤ c ∧ c ≤ 255) :
    wholeF [a, b, c] = true ↔ 224 ≤ a ∧ a ≤ 239 ∧ loOf a ≤ b ∧ b ≤ hiOf a ∧ 128 ≤ c ∧ c ≤ 191 := by
  have h1 := lo_cases a
  have h2 := hi_cases a
  unfold wholeF rightB
  rw [Bool.and_eq_true, decide_eq_true_iff, decide_eq_true_iff, told_3, putF_3]
  generalize loOf a = l at *
  generalize hiOf a = h at *
  omega
theorem whole_4 (a b c d : Int) (ha : 0 ≤ a ∧ a ≤ 255) (hb : 0 ≤ b ∧ b ≤ 255) (hc : 0 ≤ c ∧ c ≤ 255) (hd : 0 ≤ d ∧ d ≤ 255) :
    wholeF [a, b, c, d] = true ↔ 240 ≤ a ∧ a ≤ 244 ∧ loOf a ≤ b ∧ b ≤ hiOf a ∧ 128 ≤ c ∧ c ≤ 191 ∧ 128 ≤ d ∧ d ≤ 191 := by
  have h1 := lo_cases a
  have h2 := hi_cases a
  unfold wholeF rightB
  rw [Bool.and_eq_true, decide_eq_true_iff, decide_eq_true_iff, told_4, putF_4]
  generalize loOf a = l at *
  generalize hiOf a = h at *
  omega
theorem begins_2 (a b : Int) (ha : 0 ≤ a ∧ a ≤ 255) (hb : 0 ≤ b ∧ b ≤ 255) : beginsF [a, b] = true ↔ 224 ≤ a ∧ a ≤ 244 ∧ loOf a ≤ b ∧ b ≤ hiOf a := by
  have e : beginsF [a, b] = (wholeF [a, b, 128] || wholeF [a, b, 191] || (wholeF [a, b, 128, 128] || wholeF [a, b, 191, 191])) := by
    simp [beginsF, List.range, List.range.loop, goesTo, fillF, List.replicate]
  rw [e, Bool.or_eq_true, Bool.or_eq_true, Bool.or_eq_true, whole_3 a b 128 ha hb (by omega), whole_3 a b 191 ha hb (by omega), whole_4 a b 128 128 ha hb (by omega) (by omega), whole_4 a b 191 191 ha hb (by omega) (by omega)]
  omega
theorem begins_3 (a b c : Int) (ha : 0 ≤ a ∧ a ≤ 255) (hb : 0 ≤ b ∧ b ≤ 255) (hc : 0 ≤ c ∧ c ≤ 255) : beginsF [a, b, c] = true ↔ 240 ≤ a ∧ a ≤ 244 ∧ loOf a ≤ b ∧ b ≤ hiOf a ∧ 128 ≤ c ∧ c ≤ 191 := by
  have e : beginsF [a, b, c] = (wholeF [a, b, c, 128] || wholeF [a, b, c, 191]) := by
    simp [beginsF, List.range, List.range.loop, goesTo, fillF]
  rw [e, Bool.or_eq_true, whole_4 a b c 128 ha hb hc (by omega), whole_4 a b c 191 ha hb hc (by omega)]
  omega
theorem take_1 (ys : List Int) (h : 1 ≤ ys.length) : ys.take 1 = [ys[0]?.getD 0] := by
  match ys, h with
  | a :: r, _ => simp
theorem take_2 (ys : List Int) (h : 2 ≤ ys.length) : ys.take 2 = [ys[0]?.getD 0, ys[1]?.getD 0] := by
  match ys, h with
  | a :: b :: r, _ => simp
theorem take_3 (ys : List Int) (h : 3 ≤ ys.length) : ys.take 3 = [ys[0]?.getD 0, ys[1]?.getD 0, ys[2]?.getD 0] := by
  match ys, h with
  | a :: b :: c :: r, _ => simp
theorem take_4 (ys : List Int) (h : 4 ≤ ys.length) : ys.take 4 = [ys[0]?.getD 0, ys[1]?.getD 0, ys[2]?.getD 0, ys[3]?.getD 0] := by
  match ys, h with
  | a :: b :: c :: d :: r, _ => simp
theorem read_c1 (a b : Int) (ha : 194 ≤ a ∧ a ≤ 223) (hb : 128 ≤ b ∧ b ≤ 191) : charNext (charBegin a) b = 64 * (a - 192) + b - 128 := by
  rw [charBegin_eq a (by omega) (by omega), if_neg (by omega), if_neg (by omega), if_pos (by omega), charNext_eq _ _ (by omega) (by omega)]; omega
theorem read_c2 (a b c : Int) (ha : 224 ≤ a ∧ a ≤ 239) (hb : 128 ≤ b ∧ b ≤ 191) (hc : 128 ≤ c ∧ c ≤ 191) : charNext (charNext (charBegin a) b) c = 64 * (64 * (a - 224) + b - 128) + c - 128 := by
  rw [charBegin_eq a (by omega) (by omega), if_neg (by omega), if_pos (by omega), charNext_eq (a % 16) b (by omega) (by omega), charNext_eq _ _ (by omega) (by omega)]; omega
theorem read_c3 (a b c d : Int) (ha : 240 ≤ a ∧ a ≤ 244) (hb : 128 ≤ b ∧ b ≤ 191) (hc : 128 ≤ c ∧ c ≤ 191) (hd : 128 ≤ d ∧ d ≤ 191) :
    charNext (charNext (charNext (charBegin a) b) c) d = 64 * (64 * (64 * (a - 240) + b - 128) + c - 128) + d - 128 := by
  rw [charBegin_eq a (by omega) (by omega), if_pos (by omega), charNext_eq (a % 8) b (by omega) (by omega), charNext_eq (a % 8 * 64 + b % 64) c (by omega) (by omega), charNext_eq _ _ (by omega) (by omega)]; omega
def ReadSpec (ys : List Int) (c : Int) (n : Nat) (o : Bool) : Prop :=
  1 ≤ n ∧ n ≤ 4 ∧ n ≤ ys.length ∧
  ((o = true ∧ wholeF (ys.take n) = true ∧ c = toldF (ys.take n)) ∨
   (o = false ∧ c = 0 ∧ n ≤ 3 ∧ (∀ s, 1 ≤ s → s ≤ 4 → s ≤ ys.length → wholeF (ys.take s) = false) ∧
    (n = 1 ∨ n ≤ ys.length ∧ beginsF (ys.take n) = true) ∧ (∀ s, n < s → s ≤ 3 → s ≤ ys.length → beginsF (ys.take s) = false)))
theorem all4 {P : Nat → Prop} (h1 : P 1) (h2 : P 2) (h3 : P 3) (h4 : P 4) : ∀ s, 1 ≤ s → s ≤ 4 → P s := by
  intro s h h'
  match s, h, h' with
  | 1, _, _ => exact h1
  | 2, _, _ => exact h2
  | 3, _, _ => exact h3
  | 4, _, _ => exact h4
section
variable (ys : List Int) (hz : U8 ys) (a b c d : Int) (ea : ys[0]?.getD 0 = a) (eb : ys[1]?.getD 0 = b) (ec : ys[2]?.getD 0 = c) (ed : ys[3]?.getD 0 = d)
include hz ea eb ec ed
theorem bds : (0 ≤ a ∧ a ≤ 255) ∧ (0 ≤ b ∧ b ≤ 255) ∧ (0 ≤ c ∧ c ≤ 255) ∧ (0 ≤ d ∧ d ≤ 255) := by
  rw [← ea, ← eb, ← ec, ← ed]; exact ⟨hz.at 0, hz.at 1, hz.at 2, hz.at 3⟩
theorem no_whole (h1 : 1 ≤ ys.length → ¬ a < 128)
    (h2 : 2 ≤ ys.length → ¬ (194 ≤ a ∧ a ≤ 223 ∧ 128 ≤ b ∧ b ≤ 191))
    (h3 : 3 ≤ ys.length → ¬ (224 ≤ a ∧ a ≤ 239 ∧ loOf a ≤ b ∧ b ≤ hiOf a ∧ 128 ≤ c ∧ c ≤ 191))
    (h4 : 4 ≤ ys.length → ¬ (240 ≤ a ∧ a ≤ 244 ∧ loOf a ≤ b ∧ b ≤ hiOf a ∧ 128 ≤ c ∧ c ≤ 191 ∧ 128 ≤ d ∧ d ≤ 191)) :
    ∀ s, 1 ≤ s → s ≤ 4 → s ≤ ys.length → wholeF (ys.take s) = false := by
  obtain ⟨ba, bb, bc, bd⟩ := bds ys hz a b c d ea eb ec ed
  refine all4 (fun hl => ?_) (fun hl => ?_) (fun hl => ?_) (fun hl => ?_)
  · rw [take_1 ys hl, ea, ← Bool.not_eq_true, whole_1 _ ba]; exact h1 hl
  · rw [take_2 ys hl, ea, eb, ← Bool.not_eq_true, whole_2 _ _ ba bb]; exact h2 hl
  · rw [take_3 ys hl, ea, eb, ec, ← Bool.not_eq_true, whole_3 _ _ _ ba bb bc]; exact h3 hl
  · rw [take_4 ys hl, ea, eb, ec, ed, ← Bool.not_eq_true, whole_4 _ _ _ _ ba bb bc bd]; exact h4 hl
theorem no_begin (n : Nat) (hn : 1 ≤ n) (h2 : n < 2 → 2 ≤ ys.length → ¬ (224 ≤ a ∧ a ≤ 244 ∧ loOf a ≤ b ∧ b ≤ hiOf a))
    (h3 : n < 3 → 3 ≤ ys.length → ¬ (240 ≤ a ∧ a ≤ 244 ∧ loOf a ≤ b ∧ b ≤ hiOf a ∧ 128 ≤ c ∧ c ≤ 191)) :
    ∀ s, n < s → s ≤ 3 → s ≤ ys.length → beginsF (ys.take s) = false := by
  obtain ⟨ba, bb, bc, bd⟩ := bds ys hz a b c d ea eb ec ed
  intro s hs hs3 hl
  rcases (show s = 2 ∨ s = 3 from by omega) with rfl | rfl
  · rw [take_2 ys hl, ea, eb, ← Bool.not_eq_true, begins_2 _ _ ba bb]; exact h2 hs hl
  · rw [take_3 ys hl, ea, eb, ec, ← Bool.not_eq_true, begins_3 _ _ _ ba bb bc]; exact h3 hs hl
end
theorem read_spec (ys : List Int) (hz : U8 ys) (hl : 1 ≤ ys.length) : ReadSpec ys (readF ys).1 (readF ys).2.1 (readF ys).2.2 := by
  obtain ⟨a, ea⟩ : ∃ a, ys[0]?.getD 0 = a := ⟨_, rfl⟩
  obtain ⟨b, eb⟩ : ∃ a, ys[1]?.getD 0 = a := ⟨_, rfl⟩
  obtain ⟨c, ec⟩ : ∃ a, ys[2]?.getD 0 = a := ⟨_, rfl⟩
  obtain ⟨d, ed⟩ : ∃ a, ys[3]?.getD 0 = a := ⟨_, rfl⟩
  obtain ⟨ba, bb, bc, bd⟩ := bds ys hz a b c d ea eb ec ed
  have nw := no_whole ys hz a b c d ea eb ec ed
  have nb := no_begin ys hz a b c d ea eb ec ed
  have hlo := lo_cases a
  have hhi := hi_cases a
  have t1 := read_c1 a b
  have t2 := read_c2 a b c
  have t3 := read_c3 a b c d
  unfold readF goesOn
  dsimp only
  simp only [ea, eb, ec, ed]
  generalize charNext (charNext (charNext (charBegin a) b) c) d = x3 at *
  generalize charNext (charNext (charBegin a) b) c = x2 at *
  generalize charNext (charBegin a) b = x1 at *
  generalize HLO : loOf a = lo at *
  generalize HHI : hiOf a = hi at *
  split
  · exact ⟨by simp, by simp, by simpa using hl, .inl ⟨rfl, by rw [take_1 ys hl, ea, whole_1 _ ba]; assumption, by rw [take_1 ys hl, ea, told_1]⟩⟩
  · split
    · split
      · exact ⟨by simp, by simp, by simpa using hl, .inr ⟨rfl, rfl, by simp, nw (fun _ => by omega) (fun _ => by omega) (fun _ => by omega) (fun _ => by omega), .inl rfl, nb 1 (by omega) (fun _ _ => by omega) (fun _ _ => by omega)⟩⟩
      · split
        · have h2 : 2 ≤ ys.length := by omega
          exact ⟨by simp, by simp, h2, .inl ⟨rfl, by rw [take_2 ys h2, ea, eb, whole_2 _ _ ba bb]; omega, by rw [take_2 ys h2, ea, eb, told_2]; exact t1 (by omega) (by omega)⟩⟩
        · split
          · have h2 : 2 ≤ ys.length := by omega
            exact ⟨by simp, by simp, h2, .inr ⟨rfl, rfl, by simp, nw (fun _ => by omega) (fun _ => by omega) (fun _ => by omega) (fun _ => by omega), .inr ⟨h2, by rw [take_2 ys h2, ea, eb, begins_2 _ _ ba bb, HLO, HHI]; omega⟩, nb 2 (by omega) (fun _ _ => by omega) (fun _ _ => by omega)⟩⟩
          · split
            · have h3 : 3 ≤ ys.length := by omega
              exact ⟨by simp, by simp, h3, .inl ⟨rfl, by rw [take_3 ys h3, ea, eb, ec, whole_3 _ _ _ ba bb bc, HLO, HHI]; omega, by rw [take_3 ys h3, ea, eb, ec, told_3]; exact t2 (by omega) (by omega) (by omega)⟩⟩
            · split
              · have h3 : 3 ≤ ys.length := by omega
                exact ⟨by simp, by simp, h3, .inr ⟨rfl, rfl, by simp, nw (fun _ => by omega) (fun _ => by omega) (fun _ => by omega) (fun _ => by omega), .inr ⟨h3, by rw [take_3 ys h3, ea, eb, ec, begins_3 _ _ _ ba bb bc, HLO, HHI]; omega⟩, nb 3 (by omega) (fun _ _ => by omega) (fun _ _ => by omega)⟩⟩
              · have h4 : 4 ≤ ys.length := by omega
                exact ⟨by simp, by simp, h4, .inl ⟨rfl, by rw [take_4 ys h4, ea, eb, ec, ed, whole_4 _ _ _ _ ba bb bc bd, HLO, HHI]; omega, by rw [take_4 ys h4, ea, eb, ec, ed, told_4]; exact t3 (by omega) (by omega) (by omega) (by omega)⟩⟩
    · exact ⟨by simp, by simp, by simpa using hl, .inr ⟨rfl, rfl, by simp, nw (fun _ => by omega) (fun _ => by omega) (fun _ => by omega) (fun _ => by omega), .inl rfl, nb 1 (by omega) (fun _ _ => by omega) (fun _ _ => by omega)⟩⟩
theorem whole_size (ys : List Int) (hz : U8 ys) (n : Nat) (h1 : 1 ≤ n) (h4 : n ≤ 4) (hl : n ≤ ys.length) (h : wholeF (ys.take n) = true) :
    n = if ys[0]?.getD 0 < 128 then 1 else if ys[0]?.getD 0 ≤ 223 then 2 else if ys[0]?.getD 0 ≤ 239 then 3 else 4 := by
  rcases (show n = 1 ∨ n = 2 ∨ n = 3 ∨ n = 4 from by omega) with rfl | rfl | rfl | rfl
  · rw [take_1 ys hl, whole_1 _ (hz.at 0)] at h; rw [if_pos h]
  · rw [take_2 ys hl, whole_2 _ _ (hz.at 0) (hz.at 1)] at h; rw [if_neg (by omega), if_pos (by omega)]
  · rw [take_3 ys hl, whole_3 _ _ _ (hz.at 0) (hz.at 1) (hz.at 2)] at h; rw [if_neg (by omega), if_neg (by omega), if_pos (by omega)]
  · rw [take_4 ys hl, whole_4 _ _ _ _ (hz.at 0) (hz.at 1) (hz.at 2) (hz.at 3)] at h; rw [if_neg (by omega), if_neg (by omega), if_neg (by omega)]
theorem first_eq (ys : List Int) (hz : U8 ys) (hl : 1 ≤ ys.length) {c : Int} {n : Nat} (h : FirstSpec ys c n) :
    n = sizeF ys ∧ c = charF ys ∧ ((readF ys).2.2 = true ↔ wholeF (ys.take n) = true) := by
  obtain ⟨g1, g4, gl, g⟩ := read_spec ys hz hl
  unfold charF sizeF
  generalize (readF ys).1 = c' at *
  generalize (readF ys).2.1 = n' at *
  generalize (readF ys).2.2 = o at *
  rcases h with ⟨a1, a4, al, aw, ac⟩ | ⟨aw, ac, a1, a3, ab, am⟩ <;> rcases g with ⟨go, gw, gc⟩ | ⟨go, gc, g3, gw, gb, gm⟩
  · obtain rfl : n = n' := (whole_size ys hz n a1 a4 al aw).trans (whole_size ys hz n' g1 g4 gl gw).symm
    exact ⟨rfl, by rw [if_pos go, ac, gc], by rw [go, aw]⟩
  · rw [gw n a1 a4 al] at aw; cases aw
  · rw [aw n' g1 g4 gl] at gw; cases gw
  · obtain rfl : n = n' := by
      rcases Nat.lt_trichotomy n n' with hh | hh | hh
      · rcases gb with gb | ⟨gb1, gb2⟩
        · omega
        · rw [am n' hh g3 gb1] at gb2; cases gb2
      · exact hh
      · rcases ab with ab | ⟨ab1, ab2⟩
        · omega
        · rw [gm n hh a3 ab1] at ab2; cases ab2
    refine ⟨rfl, by rw [go, if_neg (by simp), ac], ?_⟩
    rw [go]
    have : wholeF (ys.take n) = false := aw n g1 g4 gl
    rw [this]
end
end Go.Proofs.Ytelbjnanpmdnnaa
