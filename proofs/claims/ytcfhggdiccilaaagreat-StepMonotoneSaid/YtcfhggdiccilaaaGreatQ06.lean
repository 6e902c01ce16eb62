/- Texts of mine in one: First2 Pure Dm0 Right Dn1 RefChars. -/
import Derived.Test.YtcfhggdiccilaaaGreatQ05
import Derived.Test.YtcfhggdiccilaaaGreatQ01
import Derived.Test.YtcfhggdiccilaaaGreatQ04
namespace Go.Proofs.YtcfhggdiccilaaaGreat
section
open Go.RowKit
def FirstSpec (ys : List Int) (c : Int) (n : Nat) : Prop :=
  (1 ≤ n ∧ n ≤ 4 ∧ n ≤ ys.length ∧ wholeF (ys.take n) = true ∧ c = toldF (ys.take n)) ∨
  ((∀ s, 1 ≤ s → s ≤ 4 → s ≤ ys.length → wholeF (ys.take s) = false) ∧ c = 65533 ∧ 1 ≤ n ∧ n ≤ 3 ∧
    (n = 1 ∨ n ≤ ys.length ∧ beginsF (ys.take n) = true) ∧ (∀ s, n < s → s ≤ 3 → s ≤ ys.length → beginsF (ys.take s) = false))
def FirstPost (ys : List Int) (w : World) (e : Ending) (w' : World) : Prop :=
  ∃ (c : Int) (n : Nat), e = .returned (.tuple #[.int .i64 c, .int .i64 n]) ∧ FirstSpec ys c n ∧ Below w.heap.size w w'
set_option maxRecDepth 100000 in
set_option maxHeartbeats 1000000 in
theorem first_some (b off len cap p : Nat) (zs : List Int) (w : World) (hlen : zs.length = len) (hp : p < len) (hl : len ≤ cap) (hsm : len ≤ 1000000) (hat : At w .u8 b off zs) (hz : U8 zs) :
    Calls Tryz.prog 59 #[.slice (some ⟨b, off, none⟩) len cap, .int .i64 p] w (FirstPost (zs.drop p) w) := by
  have HL : Hid ((zs.drop p).length = len - p) := Lib.hid (by rw [List.length_drop, hlen])
  clear hlen
  have hatd := hat.drop p
  have hzd := hz.drop p
  generalize zs.drop p = ys at *
  clear hat hz
  go_enter Tryz.func59, Tryz.ntmps59
  go_wp2
  go_loopw [6] (fun i wr => ∃ s : Nat, 1 ≤ s ∧ s ≤ 5 ∧ i = .int .i64 s ∧ (∀ t, 1 ≤ t → t < s → t ≤ ys.length → wholeF (ys.take t) = false) ∧ (5 ≤ s ∨ s ≤ len - p + 1) ∧ Below w.heap.size w wr) (fun i _ => 5 - (intOf i).toNat)
  case atStart => exact ⟨1, by omega, by omega, rfl, fun t h h' => by omega, by omega, Below.refl _ _⟩
  case round =>
    obtain ⟨s, hs1, hs2, rfl, hno, hs3, hbl⟩ := hrel
    have HN := Lib.hid hno; clear hno
    have hat1 := hatd.later hbl hatd.1
    by_cases hlt : s ≤ 4 ∧ p + s ≤ len
    · obtain ⟨hlt1, hlt2⟩ := hlt
      go_wp2_with fail
      refine (whole_some b (off + p) s (cap - p) (ys.take s) wr (by rw [List.length_take, HL.out]; omega) hs1 hlt1 (hat1.take s) (hzd.take s)).mono ?_
      rintro e w1 ⟨rfl, hb1⟩
      have hbl1 := hbl.trans (hb1.mono hbl.size)
      have hat2 := hatd.later hbl1 hatd.1
      by_cases hw1 : wholeF (ys.take s) = true
      · have HW := Lib.hid hw1
        rw [hw1]
        clear hw1
        go_wp2_with fail
        refine (told_some b (off + p) s (cap - p) (ys.take s) w1 (by rw [List.length_take, HL.out]; omega) hs1 hlt1 (hat2.take s) (hzd.take s)).mono ?_
        rintro e w2 ⟨rfl, hb2⟩
        have hbl2 := hbl1.trans (hb2.mono hbl1.size)
        go_wp2
        go_ret2
        exact ⟨_, s, rfl, .inl ⟨hs1, hlt1, by rw [HL.out]; omega, HW.out, rfl⟩, hbl2⟩
      · have hw1' : wholeF (ys.take s) = false := by simpa using hw1
        have HW := Lib.hid hw1'
        rw [hw1']
        clear hw1 hw1'
        go_wp2
        go_roundw
        case rel =>
          refine ⟨s + 1, by omega, by omega, by go_num, fun t h1 h2 h3 => ?_, by omega, hbl1⟩
          rcases Nat.lt_or_ge t s with h | h
          · exact HN.out t h1 h h3
          · rw [show t = s from by omega]; exact HW.out
        case measure => simp [intOf]; omega
    · have hall : ∀ t, 1 ≤ t → t ≤ 4 → t ≤ ys.length → wholeF (ys.take t) = false := fun t h1 h2 h3 => HN.out t h1 (by rw [HL.out] at h3; omega) h3
      have HA := Lib.hid hall; clear hall
      have hor : 4 < (s : Int) ∨ ((s : Int) ≤ 4 ∧ (len : Int) < (p : Int) + (s : Int)) := by omega
      rcases hor with hor | ⟨hor1, hor2⟩
      all_goals
        go_wp2
        go_loopw [7] (fun i wr => ∃ s : Nat, 1 ≤ s ∧ s ≤ 3 ∧ i = .int .i64 s ∧ (∀ t, s < t → t ≤ 3 → t ≤ ys.length → beginsF (ys.take t) = false) ∧ Below w.heap.size w wr) (fun i _ => (intOf i).toNat)
        case atStart => exact ⟨3, by omega, by omega, rfl, fun t h h' => by omega, hbl⟩
        case round =>
          obtain ⟨s2, hs4, hs5, rfl, hno2, hbl2⟩ := hrel
          have HN2 := Lib.hid hno2; clear hno2
          have hat3 := hatd.later hbl2 hatd.1
          by_cases hgt : 1 < s2
          · have hgt' : (1 : Int) < (s2 : Int) := by omega
            by_cases hle : p + s2 ≤ len
            · have hle' : (p : Int) + (s2 : Int) ≤ (len : Int) := by omega
              go_wp2_with fail
              refine (begins_some b (off + p) s2 (cap - p) (ys.take s2) _ (by rw [List.length_take, HL.out]; omega) hs4 (by omega) (hat3.take s2) (hzd.take s2)).mono ?_
              rintro e w3 ⟨rfl, hb3⟩
              have hbl3 := hbl2.trans (hb3.mono hbl2.size)
              by_cases hw2 : beginsF (ys.take s2) = true
              · have HW := Lib.hid hw2
                rw [hw2]
                clear hw2
                go_wp2
                go_ret2
                exact ⟨_, s2, rfl, .inr ⟨HA.out, rfl, hs4, hs5, .inr ⟨by rw [HL.out]; omega, HW.out⟩, fun t h1 h2 h3 => HN2.out t h1 h2 h3⟩, hbl3⟩
              · have hw2' : beginsF (ys.take s2) = false := by simpa using hw2
                have HW := Lib.hid hw2'
                rw [hw2']
                clear hw2 hw2'
                go_wp2
                go_roundw
                case rel =>
                  refine ⟨s2 - 1, by omega, by omega, by go_num, fun t h1 h2 h3 => ?_, hbl3⟩
                  rcases Nat.lt_or_ge s2 t with h | h
                  · exact HN2.out t h h2 h3
                  · rw [show t = s2 from by omega]; exact HW.out
                case measure => simp [intOf]; omega
            · have hle' : decide ((p : Int) + (s2 : Int) ≤ (len : Int)) = false := by rw [decide_eq_false_iff_not]; omega
              go_wp2
              go_roundw
              case rel =>
                refine ⟨s2 - 1, by omega, by omega, by go_num, fun t h1 h2 h3 => ?_, hbl2⟩
                rcases Nat.lt_or_ge s2 t with h | h
                · exact HN2.out t h h2 h3
                · rw [HL.out] at h3; omega
              case measure => simp [intOf]; omega
          · have : s2 = 1 := by omega
            subst this
            go_wp2
            go_ret2
            exact ⟨_, 1, rfl, .inr ⟨HA.out, rfl, by omega, by omega, .inl rfl, fun t h1 h2 h3 => HN2.out t h1 h2 h3⟩, hbl2⟩
end

section
open Go.RowKit
theorem putF_1 (n a : Int) : putF n = [a] ↔ n < 128 ∧ n = a := by
  unfold putF; (repeat' split) <;> simp <;> omega
theorem putF_2 (n a b : Int) : putF n = [a, b] ↔ 128 ≤ n ∧ n < 2048 ∧ 192 + n / 64 = a ∧ 128 + n % 64 = b := by
  unfold putF; (repeat' split) <;> simp <;> omega
theorem putF_3 (n a b c : Int) : putF n = [a, b, c] ↔ 2048 ≤ n ∧ n < 65536 ∧ 224 + n / 4096 = a ∧ 128 + n / 64 % 64 = b ∧ 128 + n % 64 = c := by
  unfold putF; (repeat' split) <;> simp <;> omega
theorem putF_4 (n a b c d : Int) : putF n = [a, b, c, d] ↔ 65536 ≤ n ∧ 240 + n / 262144 = a ∧ 128 + n / 4096 % 64 = b ∧ 128 + n / 64 % 64 = c ∧ 128 + n % 64 = d := by
  unfold putF; (repeat' split) <;> simp <;> omega
theorem told_1 (a : Int) : toldF [a] = a := by simp [toldF, toldTo, headOf]
theorem told_2 (a b : Int) : toldF [a, b] = 64 * (a - 192) + b - 128 := by simp [toldF, toldTo, headOf]
theorem told_3 (a b c : Int) : toldF [a, b, c] = 64 * (64 * (a - 224) + b - 128) + c - 128 := by simp [toldF, toldTo, headOf]
theorem told_4 (a b c d : Int) : toldF [a, b, c, d] = 64 * (64 * (64 * (a - 240) + b - 128) + c - 128) + d - 128 := by simp [toldF, toldTo, headOf]
theorem lo_cases (a : Int) : (a = 224 ∧ loOf a = 160) ∨ (a = 240 ∧ loOf a = 144) ∨ (a ≠ 224 ∧ a ≠ 240 ∧ loOf a = 128) := by
  unfold loOf; (repeat' split) <;> omega
theorem hi_cases (a : Int) : (a = 237 ∧ hiOf a = 159) ∨ (a = 244 ∧ hiOf a = 143) ∨ (a ≠ 237 ∧ a ≠ 244 ∧ hiOf a = 191) := by
  unfold hiOf; (repeat' split) <;> omega
theorem whole_1 (a : Int) (ha : 0 ≤ a ∧ a ≤ 255) : wholeF [a] = true ↔ a < 128 := by
  unfold wholeF rightB
  rw [Bool.and_eq_true, decide_eq_true_iff, decide_eq_true_iff, told_1, putF_1]; omega
theorem whole_2 (a b : Int) (ha : 0 ≤ a ∧ a ≤ 255) (hb : 0 ≤ b ∧ b ≤ 255) : wholeF [a, b] = true ↔ 194 ≤ a ∧ a ≤ 223 ∧ 128 ≤ b ∧ b ≤ 191 := by
  unfold wholeF rightB
  rw [Bool.and_eq_true, decide_eq_true_iff, decide_eq_true_iff, told_2, putF_2]; omega
theorem whole_3 (a b c : Int) (ha : 0 ≤ a ∧ a ≤ 255) (hb : 0 ≤ b ∧ b ≤ 255) (hc : 0 ≤ c ∧ c ≤ 255) :
    wholeF [a, b, c] = true ↔ 224 ≤ a ∧ a ≤ 239 ∧ loOf a ≤ b ∧ b ≤ hiOf a ∧ 128 ≤ c ∧ c ≤ 191 := by
  have h1 := lo_cases a
  have h2 := hi_cases a
  unfold wholeF rightB
  rw [Bool.and_eq_true, decide_eq_true_iff, decide_eq_true_iff, told_3, putF_3]
  generalize loOf a = l at *
  generalize hiOf a = h at *
  omega
theorem whole_4 (a b c d : Int) (ha : 0 ≤ a ∧ a ≤ 255) (hb : 0 ≤ b ∧ b ≤ 255) (hc : 0 ≤ c ∧ c ≤ 255) (hd : 0 ≤ d ∧ d ≤ 255) :
    wholeF [a, b, c, d] = true ↔ 240 ≤ a ∧ a ≤ 244 ∧ loOf a ≤ b ∧ b ≤ hiOf a ∧ 128 ≤ c ∧ c ≤ 191 ∧ 128 ≤ d ∧ d ≤ 191 := by
  have h1 := lo_cases a
  have h2 := hi_cases a
  unfold wholeF rightB
  rw [Bool.and_eq_true, decide_eq_true_iff, decide_eq_true_iff, told_4, putF_4]
  generalize loOf a = l at *
  generalize hiOf a = h at *
  omega
theorem begins_2 (a b : Int) (ha : 0 ≤ a ∧ a ≤ 255) (hb : 0 ≤ b ∧ b ≤ 255) : beginsF [a, b] = true ↔ 224 ≤ a ∧ a ≤ 244 ∧ loOf a ≤ b ∧ b ≤ hiOf a := by
  have e : beginsF [a, b] = (wholeF [a, b, 128] || wholeF [a, b, 191] || (wholeF [a, b, 128, 128] || wholeF [a, b, 191, 191])) := by
    simp [beginsF, List.range, List.range.loop, goesTo, fillF, List.replicate]
  rw [e, Bool.or_eq_true, Bool.or_eq_true, Bool.or_eq_true, whole_3 a b 128 ha hb (by omega), whole_3 a b 191 ha hb (by omega), whole_4 a b 128 128 ha hb (by omega) (by omega), whole_4 a b 191 191 ha hb (by omega) (by omega)]
  omega
theorem begins_3 (a b c : Int) (ha : 0 ≤ a ∧ a ≤ 255) (hb : 0 ≤ b ∧ b ≤ 255) (hc : 0 ≤ c ∧ c ≤ 255) : beginsF [a, b, c] = true ↔ 240 ≤ a ∧ a ≤ 244 ∧ loOf a ≤ b ∧ b ≤ hiOf a ∧ 128 ≤ c ∧ c ≤ 191 := by
  have e : beginsF [a, b, c] = (wholeF [a, b, c, 128] || wholeF [a, b, c, 191]) := by
    simp [beginsF, List.range, List.range.loop, goesTo, fillF]
  rw [e, Bool.or_eq_true, whole_4 a b c 128 ha hb hc (by omega), whole_4 a b c 191 ha hb hc (by omega)]
  omega
theorem take_1 (ys : List Int) (h : 1 ≤ ys.length) : ys.take 1 = [ys[0]?.getD 0] := by
  match ys, h with
  | a :: r, _ => simp
theorem take_2 (ys : List Int) (h : 2 ≤ ys.length) : ys.take 2 = [ys[0]?.getD 0, ys[1]?.getD 0] := by
  match ys, h with
  | a :: b :: r, _ => simp
theorem take_3 (ys : List Int) (h : 3 ≤ ys.length) : ys.take 3 = [ys[0]?.getD 0, ys[1]?.getD 0, ys[2]?.getD 0] := by
  match ys, h with
  | a :: b :: c :: r, _ => simp
theorem take_4 (ys : List Int) (h : 4 ≤ ys.length) : ys.take 4 = [ys[0]?.getD 0, ys[1]?.getD 0, ys[2]?.getD 0, ys[3]?.getD 0] := by
  match ys, h with
  | a :: b :: c :: d :: r, _ => simp
theorem read_c1 (a b : Int) (ha : 194 ≤ a ∧ a ≤ 223) (hb : 128 ≤ b ∧ b ≤ 191) : charNext (charBegin a) b = 64 * (a - 192) + b - 128 := by
  rw [charBegin_eq a (by omega) (by omega), if_neg (by omega), if_neg (by omega), if_pos (by omega), charNext_eq _ _ (by omega) (by omega)]; omega
theorem read_c2 (a b c : Int) (ha : 224 ≤ a ∧ a ≤ 239) (hb : 128 ≤ b ∧ b ≤ 191) (hc : 128 ≤ c ∧ c ≤ 191) : charNext (charNext (charBegin a) b) c = 64 * (64 * (a - 224) + b - 128) + c - 128 := by
  rw [charBegin_eq a (by omega) (by omega), if_neg (by omega), if_pos (by omega), charNext_eq (a % 16) b (by omega) (by omega), charNext_eq _ _ (by omega) (by omega)]; omega
theorem read_c3 (a b c d : Int) (ha : 240 ≤ a ∧ a ≤ 244) (hb : 128 ≤ b ∧ b ≤ 191) (hc : 128 ≤ c ∧ c ≤ 191) (hd : 128 ≤ d ∧ d ≤ 191) :
    charNext (charNext (charNext (charBegin a) b) c) d = 64 * (64 * (64 * (a - 240) + b - 128) + c - 128) + d - 128 := by
  rw [charBegin_eq a (by omega) (by omega), if_pos (by omega), charNext_eq (a % 8) b (by omega) (by omega), charNext_eq (a % 8 * 64 + b % 64) c (by omega) (by omega), charNext_eq _ _ (by omega) (by omega)]; omega
def ReadSpec (ys : List Int) (c : Int) (n : Nat) (o : Bool) : Prop :=
  1 ≤ n ∧ n ≤ 4 ∧ n ≤ ys.length ∧
  ((o = true ∧ wholeF (ys.take n) = true ∧ c = toldF (ys.take n)) ∨
   (o = false ∧ c = 0 ∧ n ≤ 3 ∧ (∀ s, 1 ≤ s → s ≤ 4 → s ≤ ys.length → wholeF (ys.take s) = false) ∧
    (n = 1 ∨ n ≤ ys.length ∧ beginsF (ys.take n) = true) ∧ (∀ s, n < s → s ≤ 3 → s ≤ ys.length → beginsF (ys.take s) = false)))
theorem all4 {P : Nat → Prop} (h1 : P 1) (h2 : P 2) (h3 : P 3) (h4 : P 4) : ∀ s, 1 ≤ s → s ≤ 4 → P s := by
  intro s h h'
  match s, h, h' with
  | 1, _, _ => exact h1
  | 2, _, _ => exact h2
  | 3, _, _ => exact h3
  | 4, _, _ => exact h4
section
variable (ys : List Int) (hz : U8 ys) (a b c d : Int) (ea : ys[0]?.getD 0 = a) (eb : ys[1]?.getD 0 = b) (ec : ys[2]?.getD 0 = c) (ed : ys[3]?.getD 0 = d)
include hz ea eb ec ed
theorem bds : (0 ≤ a ∧ a ≤ 255) ∧ (0 ≤ b ∧ b ≤ 255) ∧ (0 ≤ c ∧ c ≤ 255) ∧ (0 ≤ d ∧ d ≤ 255) := by
  rw [← ea, ← eb, ← ec, ← ed]; exact ⟨hz.at 0, hz.at 1, hz.at 2, hz.at 3⟩
theorem no_whole (h1 : 1 ≤ ys.length → ¬ a < 128)
    (h2 : 2 ≤ ys.length → ¬ (194 ≤ a ∧ a ≤ 223 ∧ 128 ≤ b ∧ b ≤ 191))
    (h3 : 3 ≤ ys.length → ¬ (224 ≤ a ∧ a ≤ 239 ∧ loOf a ≤ b ∧ b ≤ hiOf a ∧ 128 ≤ c ∧ c ≤ 191))
    (h4 : 4 ≤ ys.length → ¬ (240 ≤ a ∧ a ≤ 244 ∧ loOf a ≤ b ∧ b ≤ hiOf a ∧ 128 ≤ c ∧ c ≤ 191 ∧ 128 ≤ d ∧ d ≤ 191)) :
    ∀ s, 1 ≤ s → s ≤ 4 → s ≤ ys.length → wholeF (ys.take s) = false := by
  obtain ⟨ba, bb, bc, bd⟩ := bds ys hz a b c d ea eb ec ed
  refine all4 (fun hl => ?_) (fun hl => ?_) (fun hl => ?_) (fun hl => ?_)
  · rw [take_1 ys hl, ea, ← Bool.not_eq_true, whole_1 _ ba]; exact h1 hl
  · rw [take_2 ys hl, ea, eb, ← Bool.not_eq_true, whole_2 _ _ ba bb]; exact h2 hl
  · rw [take_3 ys hl, ea, eb, ec, ← Bool.not_eq_true, whole_3 _ _ _ ba bb bc]; exact h3 hl
  · rw [take_4 ys hl, ea, eb, ec, ed, ← Bool.not_eq_true, whole_4 _ _ _ _ ba bb bc bd]; exact h4 hl
theorem no_begin (n : Nat) (hn : 1 ≤ n) (h2 : n < 2 → 2 ≤ ys.length → ¬ (224 ≤ a ∧ a ≤ 244 ∧ loOf a ≤ b ∧ b ≤ hiOf a))
    (h3 : n < 3 → 3 ≤ ys.length → ¬ (240 ≤ a ∧ a ≤ 244 ∧ loOf a ≤ b ∧ b ≤ hiOf a ∧ 128 ≤ c ∧ c ≤ 191)) :
    ∀ s, n < s → s ≤ 3 → s ≤ ys.length → beginsF (ys.take s) = false := by
  obtain ⟨ba, bb, bc, bd⟩ := bds ys hz a b c d ea eb ec ed
  intro s hs hs3 hl
  rcases (show s = 2 ∨ s = 3 from by omega) with rfl | rfl
  · rw [take_2 ys hl, ea, eb, ← Bool.not_eq_true, begins_2 _ _ ba bb]; exact h2 hs hl
  · rw [take_3 ys hl, ea, eb, ec, ← Bool.not_eq_true, begins_3 _ _ _ ba bb bc]; exact h3 hs hl
end
theorem read_spec (ys : List Int) (hz : U8 ys) (hl : 1 ≤ ys.length) : ReadSpec ys (readF ys).1 (readF ys).2.1 (readF ys).2.2 := by
  obtain ⟨a, ea⟩ : ∃ a, ys[0]?.getD 0 = a := ⟨_, rfl⟩
  obtain ⟨b, eb⟩ : ∃ a, ys[1]?.getD 0 = a := ⟨_, rfl⟩
  obtain ⟨c, ec⟩ : ∃ a, ys[2]?.getD 0 = a := ⟨_, rfl⟩
  obtain ⟨d, ed⟩ : ∃ a, ys[3]?.getD 0 = a := ⟨_, rfl⟩
  obtain ⟨ba, bb, bc, bd⟩ := bds ys hz a b c d ea eb ec ed
  have nw := no_whole ys hz a b c d ea eb ec ed
  have nb := no_begin ys hz a b c d ea eb ec ed
  have hlo := lo_cases a
  have hhi := hi_cases a
  have t1 := read_c1 a b
  have t2 := read_c2 a b c
  have t3 := read_c3 a b c d
  unfold readF goesOn
  dsimp only
  simp only [ea, eb, ec, ed]
  generalize charNext (charNext (charNext (charBegin a) b) c) d = x3 at *
  generalize charNext (charNext (charBegin a) b) c = x2 at *
  generalize charNext (charBegin a) b = x1 at *
  generalize HLO : loOf a = lo at *
  generalize HHI : hiOf a = hi at *
  split
  · exact ⟨by simp, by simp, by simpa using hl, .inl ⟨rfl, by rw [take_1 ys hl, ea, whole_1 _ ba]; assumption, by rw [take_1 ys hl, ea, told_1]⟩⟩
  · split
    · split
      · exact ⟨by simp, by simp, by simpa using hl, .inr ⟨rfl, rfl, by simp, nw (fun _ => by omega) (fun _ => by omega) (fun _ => by omega) (fun _ => by omega), .inl rfl, nb 1 (by omega) (fun _ _ => by omega) (fun _ _ => by omega)⟩⟩
      · split
        · have h2 : 2 ≤ ys.length := by omega
          exact ⟨by simp, by simp, h2, .inl ⟨rfl, by rw [take_2 ys h2, ea, eb, whole_2 _ _ ba bb]; omega, by rw [take_2 ys h2, ea, eb, told_2]; exact t1 (by omega) (by omega)⟩⟩
        · split
          · have h2 : 2 ≤ ys.length := by omega
            exact ⟨by simp, by simp, h2, .inr ⟨rfl, rfl, by simp, nw (fun _ => by omega) (fun _ => by omega) (fun _ => by omega) (fun _ => by omega), .inr ⟨h2, by rw [take_2 ys h2, ea, eb, begins_2 _ _ ba bb, HLO, HHI]; omega⟩, nb 2 (by omega) (fun _ _ => by omega) (fun _ _ => by omega)⟩⟩
          · split
            · have h3 : 3 ≤ ys.length := by omega
              exact ⟨by simp, by simp, h3, .inl ⟨rfl, by rw [take_3 ys h3, ea, eb, ec, whole_3 _ _ _ ba bb bc, HLO, HHI]; omega, by rw [take_3 ys h3, ea, eb, ec, told_3]; exact t2 (by omega) (by omega) (by omega)⟩⟩
            · split
              · have h3 : 3 ≤ ys.length := by omega
                exact ⟨by simp, by simp, h3, .inr ⟨rfl, rfl, by simp, nw (fun _ => by omega) (fun _ => by omega) (fun _ => by omega) (fun _ => by omega), .inr ⟨h3, by rw [take_3 ys h3, ea, eb, ec, begins_3 _ _ _ ba bb bc, HLO, HHI]; omega⟩, nb 3 (by omega) (fun _ _ => by omega) (fun _ _ => by omega)⟩⟩
              · have h4 : 4 ≤ ys.length := by omega
                exact ⟨by simp, by simp, h4, .inl ⟨rfl, by rw [take_4 ys h4, ea, eb, ec, ed, whole_4 _ _ _ _ ba bb bc bd, HLO, HHI]; omega, by rw [take_4 ys h4, ea, eb, ec, ed, told_4]; exact t3 (by omega) (by omega) (by omega) (by omega)⟩⟩
    · exact ⟨by simp, by simp, by simpa using hl, .inr ⟨rfl, rfl, by simp, nw (fun _ => by omega) (fun _ => by omega) (fun _ => by omega) (fun _ => by omega), .inl rfl, nb 1 (by omega) (fun _ _ => by omega) (fun _ _ => by omega)⟩⟩
theorem whole_size (ys : List Int) (hz : U8 ys) (n : Nat) (h1 : 1 ≤ n) (h4 : n ≤ 4) (hl : n ≤ ys.length) (h : wholeF (ys.take n) = true) :
    n = if ys[0]?.getD 0 < 128 then 1 else if ys[0]?.getD 0 ≤ 223 then 2 else if ys[0]?.getD 0 ≤ 239 then 3 else 4 := by
  rcases (show n = 1 ∨ n = 2 ∨ n = 3 ∨ n = 4 from by omega) with rfl | rfl | rfl | rfl
  · rw [take_1 ys hl, whole_1 _ (hz.at 0)] at h; rw [if_pos h]
  · rw [take_2 ys hl, whole_2 _ _ (hz.at 0) (hz.at 1)] at h; rw [if_neg (by omega), if_pos (by omega)]
  · rw [take_3 ys hl, whole_3 _ _ _ (hz.at 0) (hz.at 1) (hz.at 2)] at h; rw [if_neg (by omega), if_neg (by omega), if_pos (by omega)]
  · rw [take_4 ys hl, whole_4 _ _ _ _ (hz.at 0) (hz.at 1) (hz.at 2) (hz.at 3)] at h; rw [if_neg (by omega), if_neg (by omega), if_neg (by omega)]
theorem first_eq (ys : List Int) (hz : U8 ys) (hl : 1 ≤ ys.length) {c : Int} {n : Nat} (h : FirstSpec ys c n) :
    n = sizeF ys ∧ c = charF ys ∧ ((readF ys).2.2 = true ↔ wholeF (ys.take n) = true) := by
  obtain ⟨g1, g4, gl, g⟩ := read_spec ys hz hl
  unfold charF sizeF
  generalize (readF ys).1 = c' at *
  generalize (readF ys).2.1 = n' at *
  generalize (readF ys).2.2 = o at *
  rcases h with ⟨a1, a4, al, aw, ac⟩ | ⟨aw, ac, a1, a3, ab, am⟩ <;> rcases g with ⟨go, gw, gc⟩ | ⟨go, gc, g3, gw, gb, gm⟩
  · obtain rfl : n = n' := (whole_size ys hz n a1 a4 al aw).trans (whole_size ys hz n' g1 g4 gl gw).symm
    exact ⟨rfl, by rw [if_pos go, ac, gc], by rw [go, aw]⟩
  · rw [gw n a1 a4 al] at aw; cases aw
  · rw [aw n' g1 g4 gl] at gw; cases gw
  · obtain rfl : n = n' := by
      rcases Nat.lt_trichotomy n n' with hh | hh | hh
      · rcases gb with gb | ⟨gb1, gb2⟩
        · omega
        · rw [am n' hh g3 gb1] at gb2; cases gb2
      · exact hh
      · rcases ab with ab | ⟨ab1, ab2⟩
        · omega
        · rw [gm n hh a3 ab1] at ab2; cases ab2
    refine ⟨rfl, by rw [go, if_neg (by simp), ac], ?_⟩
    rw [go]
    have : wholeF (ys.take n) = false := aw n g1 g4 gl
    rw [this]
end

section
open Go.RowKit
def RdOf {α : Type} (ok : Nat → Prop) (sz : Nat) (P : Nat → Nat → α → Prop) (a : Option Addr) (n c : Nat) (xs : List α) : Prop :=
  n = xs.length ∧ n ≤ c ∧ (c ≤ maxLen ∧ n ≤ 140737488351232 ∧ (a = none → c = 0)) ∧ (xs = [] ∨ ∃ b off, a = some ⟨b, off, none⟩ ∧ ok b ∧ ∀ i x, xs[i]? = some x → P b (off + i * sz) x)
theorem RdOf.imp {α : Type} {ok ok' : Nat → Prop} {sz : Nat} {P P' : Nat → Nat → α → Prop} {a : Option Addr} {n c : Nat} {xs : List α} (h : RdOf ok sz P a n c xs) (ho : ∀ b, ok b → ok' b) (hp : ∀ b o x, ok b → P b o x → P' b o x) : RdOf ok' sz P' a n c xs := by
  obtain ⟨h1, h2, h3, h4⟩ := h
  refine ⟨h1, h2, h3, ?_⟩
  rcases h4 with h4 | ⟨b, off, rfl, hb, hi⟩
  · exact .inl h4
  · exact .inr ⟨b, off, rfl, ho _ hb, fun i x hx => hp _ _ _ hb (hi i x hx)⟩
theorem RdOf.at {α : Type} {ok : Nat → Prop} {sz : Nat} {P : Nat → Nat → α → Prop} {a : Option Addr} {n c : Nat} {xs : List α} (h : RdOf ok sz P a n c xs) (i : Nat) (x : α) (hx : xs[i]? = some x) : ∃ b off, a = some ⟨b, off, none⟩ ∧ ok b ∧ P b (off + i * sz) x := by
  rcases h.2.2.2 with h4 | ⟨b, off, rfl, hb, hi⟩
  · subst h4; simp at hx
  · exact ⟨b, off, rfl, hb, hi i x hx⟩
theorem RdOf.nil {α : Type} (ok : Nat → Prop) (sz : Nat) (P : Nat → Nat → α → Prop) (a : Option Addr) (c : Nat) (hc : c ≤ maxLen) (ha : a = none → c = 0) : RdOf ok sz P a 0 c [] := ⟨rfl, Nat.zero_le _, ⟨hc, by decide, ha⟩, .inl rfl⟩
structure At3 where
  space : ByteArray
  name : ByteArray
  val : ByteArray
deriving DecidableEq
structure Nd where
  par : Int
  kind : Int
  space : ByteArray
  name : ByteArray
  attrs : List At3
  states : List ByteArray
  text : ByteArray
deriving DecidableEq
def StrAt (w : World) (b o : Nat) (s : ByteArray) : Prop := w.cell? ⟨b, o, none⟩ = some (.string s) ∧ s.size ≤ 140737488351232
def AttrAt (w : World) (b o : Nat) (t : At3) : Prop :=
  w.cell? ⟨b, o, none⟩ = some (.string t.space) ∧ w.cell? ⟨b, o + 1, none⟩ = some (.string t.name) ∧ w.cell? ⟨b, o + 2, none⟩ = some (.string t.val) ∧ t.space.size ≤ 140737488351232 ∧ t.name.size ≤ 140737488351232 ∧ t.val.size ≤ 140737488351232
def RdS (ok : Nat → Prop) (w : World) (a : Option Addr) (n c : Nat) (xs : List ByteArray) : Prop := RdOf ok 1 (StrAt w) a n c xs
def RdA (ok : Nat → Prop) (w : World) (a : Option Addr) (n c : Nat) (xs : List At3) : Prop := RdOf ok 3 (AttrAt w) a n c xs
def NodeAt (ok : Nat → Prop) (w : World) (b o : Nat) (x : Nd) : Prop :=
  w.cell? ⟨b, o, none⟩ = some (.int .i64 x.par) ∧ w.cell? ⟨b, o + 1, none⟩ = some (.int .i64 x.kind) ∧ w.cell? ⟨b, o + 2, none⟩ = some (.string x.space) ∧ w.cell? ⟨b, o + 3, none⟩ = some (.string x.name) ∧
  (∃ a n c, w.cell? ⟨b, o + 4, none⟩ = some (.slice a n c) ∧ RdA ok w a n c x.attrs) ∧ (∃ a n c, w.cell? ⟨b, o + 5, none⟩ = some (.slice a n c) ∧ RdS ok w a n c x.states) ∧
  w.cell? ⟨b, o + 6, none⟩ = some (.string x.text) ∧ x.space.size ≤ 140737488351232 ∧ x.name.size ≤ 140737488351232 ∧ x.text.size ≤ 140737488351232
def RdN (ok : Nat → Prop) (w : World) (a : Option Addr) (n c : Nat) (xs : List Nd) : Prop := RdOf ok 7 (NodeAt ok w) a n c xs
theorem cell_same {w w' : World} {b : Nat} (h : w'.heap[b]? = w.heap[b]?) (o : Nat) : w'.cell? ⟨b, o, none⟩ = w.cell? ⟨b, o, none⟩ := by unfold World.cell?; simp [h]
theorem StrAt.move {w w' : World} {b o : Nat} {s : ByteArray} (h : StrAt w b o s) (hb : w'.heap[b]? = w.heap[b]?) : StrAt w' b o s := by unfold StrAt at *; simp only [cell_same hb]; exact h
theorem AttrAt.move {w w' : World} {b o : Nat} {s : At3} (h : AttrAt w b o s) (hb : w'.heap[b]? = w.heap[b]?) : AttrAt w' b o s := by unfold AttrAt at *; simp only [cell_same hb]; exact h
theorem RdS.move {ok ok' : Nat → Prop} {w w' : World} (ho : ∀ b, ok b → ok' b ∧ w'.heap[b]? = w.heap[b]?) {a : Option Addr} {n c : Nat} {x : List ByteArray} (h : RdS ok w a n c x) : RdS ok' w' a n c x := RdOf.imp h (fun b hb => (ho b hb).1) (fun _ _ _ hb hx => hx.move (ho _ hb).2)
theorem RdA.move {ok ok' : Nat → Prop} {w w' : World} (ho : ∀ b, ok b → ok' b ∧ w'.heap[b]? = w.heap[b]?) {a : Option Addr} {n c : Nat} {x : List At3} (h : RdA ok w a n c x) : RdA ok' w' a n c x := RdOf.imp h (fun b hb => (ho b hb).1) (fun _ _ _ hb hx => hx.move (ho _ hb).2)
theorem NodeAt.move {ok ok' : Nat → Prop} {w w' : World} (ho : ∀ b, ok b → ok' b ∧ w'.heap[b]? = w.heap[b]?) {b o : Nat} {x : Nd} (hb : w'.heap[b]? = w.heap[b]?) (h : NodeAt ok w b o x) : NodeAt ok' w' b o x := by
  obtain ⟨h0, h1, h2, h3, ⟨a, n, c, h4, h4'⟩, ⟨a', n', c', h5, h5'⟩, h6, h7⟩ := h
  unfold NodeAt
  simp only [cell_same hb]
  exact ⟨h0, h1, h2, h3, ⟨a, n, c, h4, h4'.move ho⟩, ⟨a', n', c', h5, h5'.move ho⟩, h6, h7⟩
theorem RdN.move {ok ok' : Nat → Prop} {w w' : World} (ho : ∀ b, ok b → ok' b ∧ w'.heap[b]? = w.heap[b]?) {a : Option Addr} {n c : Nat} {x : List Nd} (h : RdN ok w a n c x) : RdN ok' w' a n c x := RdOf.imp h (fun b hb => (ho b hb).1) (fun _ _ _ hb hx => hx.move ho (ho _ hb).2)
theorem RdN.later {w w' : World} {B : Nat} (hb : Below B w w') (hB : B ≤ w.heap.size) {a : Option Addr} {n c : Nat} {x : List Nd} (h : RdN (· < B) w a n c x) : RdN (· < w'.heap.size) w' a n c x :=
  RdN.move (fun b h => ⟨Nat.lt_of_lt_of_le h (Nat.le_trans hB hb.size), hb.block b h⟩) h
theorem RdA.later {w w' : World} {B : Nat} (hb : Below B w w') (hB : B ≤ w.heap.size) {a : Option Addr} {n c : Nat} {x : List At3} (h : RdA (· < B) w a n c x) : RdA (· < w'.heap.size) w' a n c x :=
  RdA.move (fun b h => ⟨Nat.lt_of_lt_of_le h (Nat.le_trans hB hb.size), hb.block b h⟩) h
theorem RdS.later {w w' : World} {B : Nat} (hb : Below B w w') (hB : B ≤ w.heap.size) {a : Option Addr} {n c : Nat} {x : List ByteArray} (h : RdS (· < B) w a n c x) : RdS (· < w'.heap.size) w' a n c x :=
  RdS.move (fun b h => ⟨Nat.lt_of_lt_of_le h (Nat.le_trans hB hb.size), hb.block b h⟩) h
end

section
open Go.RowKit
def rightN : Nat → List Int → Nat → Bool
  | 0, _, _ => true
  | f + 1, zs, k => if zs.length ≤ k then true else
      if (readF (zs.drop k)).2.2 = true ∧ (readF (zs.drop k)).1 ≠ 0 then rightN f zs (k + sizeF (zs.drop k)) else false
def rightFrom (zs : List Int) (k : Nat) : Bool := rightN (zs.length - k) zs k
def rightF (zs : List Int) : Bool := rightFrom zs 0
theorem rightN_enough (zs : List Int) : ∀ (f k : Nat), zs.length - k ≤ f → rightN f zs k = rightN (zs.length - k) zs k
  | 0, k, h => by rw [show zs.length - k = 0 by omega]
  | f + 1, k, h => by
    by_cases hl : zs.length ≤ k
    · rw [show zs.length - k = 0 by omega]; simp only [rightN]; rw [if_pos hl]
    · have hs := readF_size (zs.drop k) (by simp; omega)
      obtain ⟨m, hm⟩ : ∃ m, zs.length - k = m + 1 := ⟨zs.length - k - 1, by omega⟩
      have hs' : 1 ≤ sizeF (zs.drop k) := hs.1
      rw [hm, rightN, rightN, if_neg hl, if_neg hl, rightN_enough zs f _ (by omega), rightN_enough zs m _ (by omega)]
theorem rightFrom_end (zs : List Int) (k : Nat) (h : zs.length ≤ k) : rightFrom zs k = true := by
  unfold rightFrom; rw [show zs.length - k = 0 by omega, rightN]
theorem rightFrom_step (zs : List Int) (k : Nat) (h : k < zs.length) :
    rightFrom zs k = if (readF (zs.drop k)).2.2 = true ∧ (readF (zs.drop k)).1 ≠ 0 then rightFrom zs (k + sizeF (zs.drop k)) else false := by
  have hs : 1 ≤ sizeF (zs.drop k) := (readF_size (zs.drop k) (by simp; omega)).1
  unfold rightFrom
  obtain ⟨m, hm⟩ : ∃ m, zs.length - k = m + 1 := ⟨zs.length - k - 1, by omega⟩
  rw [hm, rightN, if_neg (by omega), rightN_enough zs m _ (by omega)]
end

section
open Go.RowKit
set_option linter.unusedVariables false
set_option linter.unusedSimpArgs false
def nmI (s : ByteArray) : List Int := s.data.toList.map fun b => (b.toNat : Int)
theorem nmI_len (s : ByteArray) : (nmI s).length = s.size := by unfold nmI; rw [List.length_map, Array.length_toList]; rfl
theorem nmI_u8 (s : ByteArray) : U8 (nmI s) := fun z hz => by
  unfold nmI at hz
  obtain ⟨b, _, rfl⟩ := List.mem_map.1 hz
  have := b.toNat_lt
  omega
def rightS (s : ByteArray) : Bool := rightF (nmI s)
def nameS (s : ByteArray) : Bool := !decide (s.size = 0) && rightS s
end

section
open Go.RowKit
theorem first_call (b off len cap p : Nat) (zs : List Int) (w : World) (hlen : zs.length = len) (hp : p < len) (hl : len ≤ cap) (hsm : len ≤ 1000000) (hat : At w .u8 b off zs) (hz : U8 zs) :
    Calls Tryz.prog 59 #[.slice (some ⟨b, off, none⟩) len cap, .int .i64 p] w fun e w' =>
      e = .returned (.tuple #[.int .i64 (charF (zs.drop p)), .int .i64 (sizeF (zs.drop p))]) ∧ Below w.heap.size w w' :=
  (first_some b off len cap p zs w hlen hp hl hsm hat hz).mono fun e w' ⟨c, n, he, hs, hb⟩ => by
    obtain ⟨h1, h2, _⟩ := first_eq (zs.drop p) (hz.drop p) (by rw [List.length_drop]; omega) hs
    rw [← h1, ← h2]; exact ⟨he, hb⟩
theorem charF_bd (ys : List Int) (hz : U8 ys) : -2147483648 ≤ charF ys ∧ charF ys ≤ 2147483647 := by
  unfold charF; split
  · exact readF_char ys hz
  · omega
set_option maxRecDepth 100000 in
set_option maxHeartbeats 1000000 in
theorem refChars_some (b off len cap : Nat) (zs : List Int) (w : World) (hlen : zs.length = len) (h1 : 1 ≤ len) (hl : len ≤ cap) (hcap : cap ≤ maxLen)
    (hat : At w .u8 b off zs) (hz : U8 zs) (hsm : len ≤ 1000000) :
    Calls Tryz.prog 40 #[.slice (some ⟨b, off, none⟩) len cap] w (CharsPost zs w) := by
  obtain ⟨i0, hi, hz0, hz1, hz2⟩ := info_parts Tryz.info3
  unfold maxLen at hcap
  have H0 := Lib.hid hlen; clear hlen
  have own0 := World.ownsRow_made (base := w.heap.size) (e := 3) (size := 1) w #[] 0 (Nat.le_refl _) (by simp [maxLen]) (by simp)
  go_enter Tryz.func40, Tryz.ntmps40
  go_wp2
  go_loopw [3, 4] (fun v i wr => ∃ (k : Nat) (acc : List Int), k ≤ len ∧ acc.length ≤ k ∧ i = .int .i64 k ∧ wr.ownsRow w.heap.size 3 1 v acc.length (acc.map (Value.int .i64)) ∧ charsF zs = acc ++ charsFrom zs k ∧ Below w.heap.size w wr)
    (fun _ i _ => len - (intOf i).toNat)
  case atStart => exact ⟨0, [], by omega, by simp, rfl, own0, rfl, (Below.refl _ w).alloc (Nat.le_refl _) _⟩
  case round =>
    obtain ⟨k, acc, hk, hacc, rfl, hown, heq, hbl⟩ := hrel
    by_cases hlt : k < len
    · have hst := charsFrom_step zs k (by rw [H0.out]; omega)
      have HS := Lib.hid hst; clear hst
      have HE := Lib.hid heq; clear heq
      have hat' := (hat.later hbl hat.1)
      have hn := readF_size (zs.drop k) (by intro h; have := congrArg List.length h; rw [List.length_drop, H0.out] at this; simp at this; omega)
      have hcb := charF_bd (zs.drop k) (hz.drop k)
      rw [List.length_drop, H0.out] at hn
      obtain ⟨c, hc⟩ : ∃ c, charF (zs.drop k) = c := ⟨_, rfl⟩
      obtain ⟨n, hn'⟩ : ∃ n, sizeF (zs.drop k) = n := ⟨_, rfl⟩
      have hn2 : 1 ≤ n ∧ n ≤ len - k := by rw [← hn']; exact hn
      rw [hc] at hcb
      have HC := Lib.hid hc; clear hc
      have HN := Lib.hid hn'; clear hn'
      clear hn
      obtain ⟨hn1, hn2⟩ := hn2
      obtain ⟨hc1, hc2⟩ := hcb
      go_wp2_with fail
      refine (first_call b off len cap k zs wr H0.out hlt hl hsm hat' hz).mono ?_
      rintro e w2 ⟨he, hb2⟩
      rw [HC.out, HN.out] at he
      subst he
      have hown2 := owns_later hown hb2
      have hbl2 := hbl.trans (hb2.mono hbl.size)
      clear hown hb2 hat'
      by_cases hm : c = 65279
      · subst hm
        by_cases hk0 : k = 0
        · subst hk0
          go_wp2
          go_roundw
          case rel => exact ⟨0 + n, acc, by omega, by omega, by go_num, hown2, by rw [HE.out, HS.out, HN.out, HC.out]; simp, hbl2⟩
          case measure => simp [intOf]; omega
        · have hk1 : (0 : Int) < (k : Int) := by omega
          go_wp2_with (at_builtin; refine wpList_append_own _ rfl _ _ 27 rfl w.heap.size 3 i0 (.int .i64 0) 1 8 Tryz.underlying27 hi hz0 hz1 hz2 rfl (by decide) _ _ _ rfl (hown2.alloc _) ⟨w2.heap.size, 0, none⟩ 1 1 [.int .i64 65279] rfl rfl (cell_one_new _ _ _) (fun x hx => by simp at hx; subst hx; rfl) (by unfold maxLen; omega) (by omega) (by have := hbl2.size; simp; omega) ?_; intro v' w3 hown3 hgrow3 _)
          have hown4 := owns_snoc hown3
          have hbl4 : Below w.heap.size w w3 := hbl2.trans (Below.of_grown (grown_trans (World.grownBy_alloc w2 _ _) hgrow3) hbl2.size (fun j hj => (hown2.lt j hj).1))
          go_roundw
          case rel => exact ⟨k + n, acc ++ [65279], by omega, by simp; omega, by go_num, hown4, by rw [HE.out, HS.out, HN.out, HC.out]; simp [hk0], hbl4⟩
          case measure => simp [intOf]; omega
      · have hm1 : (c != 65279) = true := by rw [bne_iff_ne]; exact hm
        by_cases hk0 : k = 0
        · subst hk0
          go_wp2_with (at_builtin; refine wpList_append_own _ rfl _ _ 27 rfl w.heap.size 3 i0 (.int .i64 0) 1 8 Tryz.underlying27 hi hz0 hz1 hz2 rfl (by decide) _ _ _ rfl (hown2.alloc _) ⟨w2.heap.size, 0, none⟩ 1 1 [.int .i64 c] rfl rfl (cell_one_new _ _ _) (fun x hx => by simp at hx; subst hx; rfl) (by unfold maxLen; omega) (by omega) (by have := hbl2.size; simp; omega) ?_; intro v' w3 hown3 hgrow3 _)
          have hown4 := owns_snoc hown3
          have hbl4 : Below w.heap.size w w3 := hbl2.trans (Below.of_grown (grown_trans (World.grownBy_alloc w2 _ _) hgrow3) hbl2.size (fun j hj => (hown2.lt j hj).1))
          go_roundw
          case rel => exact ⟨0 + n, acc ++ [c], by omega, by simp; omega, by go_num, hown4, by rw [HE.out, HS.out, HN.out, HC.out]; simp [hm], hbl4⟩
          case measure => simp [intOf]; omega
        · have hk1 : (0 : Int) < (k : Int) := by omega
          go_wp2_with (at_builtin; refine wpList_append_own _ rfl _ _ 27 rfl w.heap.size 3 i0 (.int .i64 0) 1 8 Tryz.underlying27 hi hz0 hz1 hz2 rfl (by decide) _ _ _ rfl (hown2.alloc _) ⟨w2.heap.size, 0, none⟩ 1 1 [.int .i64 c] rfl rfl (cell_one_new _ _ _) (fun x hx => by simp at hx; subst hx; rfl) (by unfold maxLen; omega) (by omega) (by have := hbl2.size; simp; omega) ?_; intro v' w3 hown3 hgrow3 _)
          have hown4 := owns_snoc hown3
          have hbl4 : Below w.heap.size w w3 := hbl2.trans (Below.of_grown (grown_trans (World.grownBy_alloc w2 _ _) hgrow3) hbl2.size (fun j hj => (hown2.lt j hj).1))
          go_roundw
          case rel => exact ⟨k + n, acc ++ [c], by omega, by simp; omega, by go_num, hown4, by rw [HE.out, HS.out, HN.out, HC.out]; simp [hm], hbl4⟩
          case measure => simp [intOf]; omega
    · have hkl : k = len := by omega
      go_wp2
      go_ret
      obtain ⟨a, cp, hv, hrd⟩ := Reads.of_owns hown
      have hend : charsF zs = acc := by rw [heq, charsFrom_end zs k (by rw [H0.out]; omega), List.append_nil]
      have hfr := Fresh.of_owns hown hv
      have hnl := nil_of_owns hown hv
      rw [← hend] at hv hrd
      exact ⟨a, cp, by rw [← hv]; rfl, hrd, hbl, hfr, hnl⟩
set_option maxRecDepth 100000 in
set_option maxHeartbeats 400000 in
theorem refChars_none (a : Option Addr) (cap : Nat) (w : World) : Calls Tryz.prog 40 #[.slice a 0 cap] w (CharsPost [] w) := by
  go_enter Tryz.func40, Tryz.ntmps40
  go_wp2
  refine wp_loop_rounds 1 ?_; rw [rounds_succ]
  go_wp2
  go_ret
  exact ⟨_, 0, rfl, ⟨by simp [show charsF [] = [] from rfl], by simp [maxLen], .inl rfl⟩, (Below.refl _ w).alloc (Nat.le_refl _) _, by rintro ad ⟨⟩; exact Nat.le_refl _, by rintro ⟨⟩⟩
theorem refChars_any (a : Option Addr) (cap : Nat) (zs : List Int) (w : World) (hr : Reads w .u8 a cap zs) (hz : U8 zs) (hsm : zs.length ≤ 1000000) :
    Calls Tryz.prog 40 #[.slice a zs.length cap] w (CharsPost zs w) := by
  obtain ⟨h1, h2, h3⟩ := hr
  rcases h3 with rfl | ⟨b, off, rfl, hat⟩
  · exact refChars_none a cap w
  · by_cases h0 : zs = []
    · subst h0; exact refChars_none _ cap w
    · exact refChars_some b off zs.length cap zs w rfl (List.length_pos_iff.2 h0) h1 h2 hat hz hsm
theorem rightFrom_first (zs : List Int) (k : Nat) (h : k < zs.length) (hz : U8 zs) :
    (readF (zs.drop k)).2.2 = wholeF ((zs.drop k).take (sizeF (zs.drop k))) ∧ ((readF (zs.drop k)).2.2 = true → (readF (zs.drop k)).1 = charF (zs.drop k)) := by
  have hl : 1 ≤ (zs.drop k).length := by rw [List.length_drop]; omega
  obtain ⟨g1, g4, gl, g⟩ := read_spec (zs.drop k) (hz.drop k) hl
  refine ⟨?_, fun ho => by unfold charF; rw [if_pos ho]⟩
  unfold sizeF
  rcases g with ⟨go, gw, gc⟩ | ⟨go, gc, g3, gw, gb, gm⟩
  · rw [go, gw]
  · rw [go, gw _ g1 g4 gl]
theorem charF_zero (ys : List Int) : ys[0]?.getD 0 = 0 → charF ys = 0 ∧ (readF ys).2.2 = true := by
  intro h
  have e : readF ys = (0, 1, true) := by unfold readF; dsimp only; rw [h, if_pos (by omega)]
  unfold charF; rw [e]; simp
theorem good_none (a : Option Addr) (cap : Nat) (w : World) : Calls Tryz.prog 68 #[.slice a 0 cap] w (BoolPost (rightF []) w) := by
  go_enter Tryz.func68, Tryz.ntmps68
  go_wp2
  refine wp_loop_rounds 1 ?_; rw [rounds_succ]
  go_wp2
  go_ret
  exact ⟨rfl, Below.refl _ _⟩
end
end Go.Proofs.YtcfhggdiccilaaaGreat
