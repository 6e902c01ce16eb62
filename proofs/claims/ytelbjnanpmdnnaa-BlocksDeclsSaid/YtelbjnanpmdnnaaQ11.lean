/- Texts of mine in one: First2. -/
import Derived.Test.YtelbjnanpmdnnaaQ08
namespace Go.Proofs.Ytelbjnanpmdnnaa
section
open Go.RowKit
def FirstSpec (ys : List Int) (c : Int) (n : Nat) : Prop :=
  (1 ≤ n ∧ n ≤ 4 ∧ n ≤ ys.length ∧ wholeF (ys.take n) = true ∧ c = toldF (ys.take n)) ∨
  ((∀ s, 1 ≤ s → s ≤ 4 → s ≤ ys.length → wholeF (ys.take s) = false) ∧ c = 65533 ∧ 1 ≤ n ∧ n ≤ 3 ∧
    (n = 1 ∨ n ≤ ys.length ∧ beginsF (ys.take n) = true) ∧ (∀ s, n < s → s ≤ 3 → s ≤ ys.length → beginsF (ys.take s) = false))
def FirstPost (ys : List Int) (w : World) (e : Ending) (w' : World) : Prop :=
  ∃ (c : Int) (n : Nat), e = .returned (.tuple #[.int .i64 c, .int .i64 n]) ∧ FirstSpec ys c n ∧ Below w.heap.size w w'
set_option maxRecDepth 100000 in
set_option maxHeartbeats 1000000 in
theorem first_some (b off len cap p : Nat) (zs : List Int) (w : World) (hlen : zs.length = len) (hp : p < len) (hl : len ≤ cap) (hsm : len ≤ 1000000) (hat : At w .u8 b off zs) (hz : U8 zs) :
    Calls Try.prog 34 #[.slice (some ⟨b, off, none⟩) len cap, .int .i64 p] w (FirstPost (zs.drop p) w) := by
  have HL : Hid ((zs.drop p).length = len - p) := Lib.hid (by rw [List.length_drop, hlen])
  clear hlen
  have hatd := hat.drop p
  have hzd := hz.drop p
  generalize zs.drop p = ys at *
  clear hat hz
  go_enter Try.func34, Try.ntmps34
  go_wp2
  go_loopw [6] (fun i wr => ∃ s : Nat, 1 ≤ s ∧ s ≤ 5 ∧ i = .int .i64 s ∧ (∀ t, 1 ≤ t → t < s → t ≤ ys.length → wholeF (ys.take t) = false) ∧ (5 ≤ s ∨ s ≤ len - p + 1) ∧ Below w.heap.size w wr) (fun i _ => 5 - (intOf i).toNat)
  case atStart => exact ⟨1, by omega, by omega, rfl, fun t h h' => by omega, by omega, Below.refl _ _⟩
  case round =>
    obtain ⟨s, hs1, hs2, rfl, hno, hs3, hbl⟩ := hrel
    have HN := Lib.hid hno; clear hno
    have hat1 := hatd.later hbl hatd.1
    by_cases hlt : s ≤ 4 ∧ p + s ≤ len
    · obtain ⟨hlt1, hlt2⟩ := hlt
      go_wp2_with fail
      refine (whole_some b (off + p) s (cap - p) (ys.take s) wr (by rw [List.length_take, HL.out]; omega) hs1 hlt1 (hat1.take s) (hzd.take s)).mono ?_
      rintro e w1 ⟨rfl, hb1⟩
      have hbl1 := hbl.trans (hb1.mono hbl.size)
      have hat2 := hatd.later hbl1 hatd.1
      by_cases hw1 : wholeF (ys.take s) = true
      · have HW := Lib.hid hw1
        rw [hw1]
        clear hw1
        go_wp2_with fail
        refine (told_some b (off + p) s (cap - p) (ys.take s) w1 (by rw [List.length_take, HL.out]; omega) hs1 hlt1 (hat2.take s) (hzd.take s)).mono ?_
        rintro e w2 ⟨rfl, hb2⟩
        have hbl2 := hbl1.trans (hb2.mono hbl1.size)
        go_wp2
        go_ret2
        exact ⟨_, s, rfl, .inl ⟨hs1, hlt1, by rw [HL.out]; omega, HW.out, rfl⟩, hbl2⟩
      · have hw1' : wholeF (ys.take s) = false := by simpa using hw1
        have HW := Lib.hid hw1'
        rw [hw1']
        clear hw1 hw1'
        go_wp2
        go_roundw
        case rel =>
          refine ⟨s + 1, by omega, by omega, by go_num, fun t h1 h2 h3 => ?_, by omega, hbl1⟩
          rcases Nat.lt_or_ge t s with h | h
          · exact HN.out t h1 h h3
          · rw [show t = s from by omega]; exact HW.out
        case measure => simp [intOf]; omega
    · have hall : ∀ t, 1 ≤ t → t ≤ 4 → t ≤ ys.length → wholeF (ys.take t) = false := fun t h1 h2 h3 => HN.out t h1 (by rw [HL.out] at h3; omega) h3
      have HA := Lib.hid hall; clear hall
      have hor : 4 < (s : Int) ∨ ((s : Int) ≤ 4 ∧ (len : Int) < (p : Int) + (s : Int)) := by omega
      rcases hor with hor | ⟨hor1, hor2⟩
      all_goals
        go_wp2
        go_loopw [7] (fun i wr => ∃ s : Nat, 1 ≤ s ∧ s ≤ 3 ∧ i = .int .i64 s ∧ (∀ t, s < t → t ≤ 3 → t ≤ ys.length → beginsF (ys.take t) = false) ∧ Below w.heap.size w wr) (fun i _ => (intOf i).toNat)
        case atStart => exact ⟨3, by omega, by omega, rfl, fun t h h' => by omega, hbl⟩
        case round =>
          obtain ⟨s2, hs4, hs5, rfl, hno2, hbl2⟩ := hrel
          have HN2 := Lib.hid hno2; clear hno2
          have hat3 := hatd.later hbl2 hatd.1
          by_cases hgt : 1 < s2
          · have hgt' : (1 : Int) < (s2 : Int) := by omega
            by_cases hle : p + s2 ≤ len
            · have hle' : (p : Int) + (s2 : Int) ≤ (len : Int) := by omega
              go_wp2_with fail
              refine (begins_some b (off + p) s2 (cap - p) (ys.take s2) _ (by rw [List.length_take, HL.out]; omega) hs4 (by omega) (hat3.take s2) (hzd.take s2)).mono ?_
              rintro e w3 ⟨rfl, hb3⟩
              have hbl3 := hbl2.trans (hb3.mono hbl2.size)
              by_cases hw2 : beginsF (ys.take s2) = true
              · have HW := Lib.hid hw2
                rw [hw2]
                clear hw2
                go_wp2
                go_ret2
                exact ⟨_, s2, rfl, .inr ⟨HA.out, rfl, hs4, hs5, .inr ⟨by rw [HL.out]; omega, HW.out⟩, fun t h1 h2 h3 => HN2.out t h1 h2 h3⟩, hbl3⟩
              · have hw2' : beginsF (ys.take s2) = false := by simpa using hw2
                have HW := Lib.hid hw2'
                rw [hw2']
                clear hw2 hw2'
                go_wp2
                go_roundw
                case rel =>
                  refine ⟨s2 - 1, by omega, by omega, by go_num, fun t h1 h2 h3 => ?_, hbl3⟩
                  rcases Nat.lt_or_ge s2 t with h | h
                  · exact HN2.out t h h2 h3
                  · rw [show t = s2 from by omega]; exact HW.out
                case measure => simp [intOf]; omega
            · have hle' : decide ((p : Int) + (s2 : Int) ≤ (len : Int)) = false := by rw [decide_eq_false_iff_not]; omega
              go_wp2
              go_roundw
              case rel =>
                refine ⟨s2 - 1, by omega, by omega, by go_num, fun t h1 h2 h3 => ?_, hbl2⟩
                rcases Nat.lt_or_ge s2 t with h | h
                · exact HN2.out t h h2 h3
                · rw [HL.out] at h3; omega
              case measure => simp [intOf]; omega
          · have : s2 = 1 := by omega
            subst this
            go_wp2
            go_ret2
            exact ⟨_, 1, rfl, .inr ⟨HA.out, rfl, by omega, by omega, .inl rfl, fun t h1 h2 h3 => HN2.out t h1 h2 h3⟩, hbl2⟩
end
end Go.Proofs.Ytelbjnanpmdnnaa
