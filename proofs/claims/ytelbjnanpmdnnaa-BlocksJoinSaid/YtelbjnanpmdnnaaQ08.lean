/- Texts of mine in one: First First2. -/
import Derived.Test.YtelbjnanpmdnnaaQ07
namespace Go.Proofs.Ytelbjnanpmdnnaa
section
open Go.RowKit
def fillF (zs : List Int) (c : Int) (size : Nat) : List Int := zs ++ List.replicate (size - zs.length) c
theorem Try.info5 : (Try.prog.info? 5).map (fun i => (i.zero, i.size, i.bytes)) = some (some (.int .u8 0), 1, 1) := by kernel_rfl
theorem cells_of_at {w : World} {k : IntKind} {b off : Nat} {zs : List Int} (h : At w k b off zs) :
    ∀ j u, (zs.map (Value.int k))[j]? = some u → w.cell? ((⟨b, off, none⟩ : Addr).add j) = some u := by
  intro j u hu
  rw [List.getElem?_map] at hu
  have hj : j < zs.length := by
    rcases Nat.lt_or_ge j zs.length with h' | h'
    · exact h'
    · rw [List.getElem?_eq_none h'] at hu; simp at hu
  rw [show (⟨b, off, none⟩ : Addr).add j = ⟨b, off + j, none⟩ from by simp [Addr.add], h.2 j hj]
  rw [List.getElem?_eq_getElem hj] at hu ⊢
  simpa using hu
theorem one_cells (k : IntKind) (zs : List Int) : ∀ u ∈ zs.map (Value.int k), u.oneCell' = true := by
  intro u hu
  obtain ⟨z, _, rfl⟩ := List.mem_map.1 hu
  rfl
theorem owns_shape {w : World} {base : Nat} {e : TypeId} {size : Nat} {v : Value} {n : Nat} {xs : List Value} (h : w.ownsRow base e size v n xs) : ∃ a cap, v = .slice a n cap := by
  rcases h.2 with ⟨rfl, h0⟩ | ⟨g, cap, cur, rfl, _⟩
  · exact ⟨none, 0, by rw [h0]⟩
  · exact ⟨_, _, rfl⟩
theorem owns_cast {w : World} {base : Nat} {e : TypeId} {k : IntKind} {v : Value} {n : Nat} {xs : List Value} (h : w.ownsRow base e 1 v n xs) (zs : List Int) (hx : xs = zs.map (Value.int k)) :
    w.ownsRow base e 1 v zs.length (zs.map (Value.int k)) := by
  subst hx
  have := h.1
  rw [List.length_map, Nat.mul_one] at this
  rw [this]; exact h
set_option maxRecDepth 100000 in
set_option maxHeartbeats 1000000 in
theorem filled_some (b off len cap : Nat) (zs : List Int) (c : Int) (size : Nat) (w : World) (hlen : zs.length = len) (h4 : size ≤ 4) (h5 : len ≤ 4) (hat : At w .u8 b off zs) :
    Calls Try.prog 79 #[.slice (some ⟨b, off, none⟩) len cap, .int .u8 c, .int .i64 size] w (BytesPost (fillF zs c size) w) := by
  obtain ⟨i0, hi, hz0, hz1, hz2⟩ := info_parts Try.info5
  have HL := Lib.hid hlen; clear hlen
  have own0 := World.ownsRow_made (base := w.heap.size) (e := 5) (size := 1) w #[] 0 (Nat.le_refl _) (by simp [maxLen]) (by simp)
  have ha1 : At (w.alloc (.cells #[] 5)) .u8 b off zs := hat.later ((Below.refl _ w).alloc (Nat.le_refl _) _) hat.1
  have hcl := cells_of_at ha1
  go_enter Try.func79, Try.ntmps79
  go_wp2_with (at_builtin; refine wpList_append_own _ rfl _ _ 22 rfl w.heap.size 5 i0 (.int .u8 0) 1 1 Try.underlying22 hi hz0 hz1 hz2 rfl (by decide) _ _ _ rfl own0 ⟨b, off, none⟩ len cap (zs.map (Value.int .u8)) rfl (by rw [List.length_map, HL.out, Nat.mul_one]) hcl (one_cells _ _) (by unfold maxLen; omega) (by omega) (by simp) ?_; intro v' w1 hown1 hgrow1 _)
  have hown2 := owns_cast (k := .u8) hown1 zs (by simp)
  have hb1 : Below w.heap.size w w1 := ((Below.refl _ w).alloc (Nat.le_refl _) _).grown hgrow1 (by simp) (by rintro _ ⟨⟩; exact Nat.le_refl _)
  go_loopw [7] (fun v wr => ∃ k : Nat, len + k ≤ max len size ∧ wr.ownsRow w.heap.size 5 1 v (zs ++ List.replicate k c).length ((zs ++ List.replicate k c).map (Value.int .u8)) ∧ Below w.heap.size w wr) (fun v _ => size - lenIn v)
  case atStart => exact ⟨0, by omega, by simpa using hown2, hb1⟩
  case round =>
    obtain ⟨k, hk, hown, hbl⟩ := hrel
    obtain ⟨a, cp, rfl⟩ := owns_shape hown
    have hll : Hid ((zs ++ List.replicate k c).length = len + k) := Lib.hid (by rw [List.length_append, List.length_replicate, HL.out])
    rw [hll.out] at hown ⊢
    by_cases hlt : len + k < size
    · have hlt' : ((len + k : Nat) : Int) < (size : Int) := by omega
      go_wp2_with (at_builtin; refine wpList_append_own _ rfl _ _ 22 rfl w.heap.size 5 i0 (.int .u8 0) 1 1 Try.underlying22 hi hz0 hz1 hz2 rfl (by decide) _ _ _ rfl (hown.alloc _) ⟨wr.heap.size, 0, none⟩ 1 1 [.int .u8 c] rfl rfl (cell_one_new _ _ _) (fun x hx => by simp at hx; subst hx; rfl) (by unfold maxLen; omega) (by omega) (by have := hbl.size; simp; omega) ?_; intro v3 w3 hown3 hgrow3 _)
      have hbl4 : Below w.heap.size w w3 := hbl.trans (Below.of_grown (grown_trans (World.grownBy_alloc wr _ _) hgrow3) hbl.size (fun j hj => (hown.lt j hj).1))
      have hown4 := owns_cast (k := .u8) hown3 (zs ++ List.replicate (k + 1) c) (by rw [List.replicate_succ']; simp)
      obtain ⟨a3, cp3, rfl⟩ := owns_shape hown3
      go_roundw
      case rel => exact ⟨k + 1, by omega, hown4, hbl4⟩
      case measure => simp [lenIn]; omega
    · have hge : (size : Int) ≤ ((len + k : Nat) : Int) := by omega
      go_wp2
      go_ret
      have he : zs ++ List.replicate k c = fillF zs c size := by unfold fillF; rw [HL.out, show size - len = k from by omega]
      have hown4 := owns_cast (k := .u8) hown (fillF zs c size) (by rw [he])
      obtain ⟨a', cp', hv, hrd⟩ := Reads.of_owns hown4
      exact ⟨a', cp', by rw [← hv]; rfl, hrd, hbl⟩
theorem fillF_len (zs : List Int) (c : Int) (size : Nat) (h : zs.length ≤ size) : (fillF zs c size).length = size := by
  unfold fillF; rw [List.length_append, List.length_replicate]; omega
theorem fillF_u8 (zs : List Int) (c : Int) (size : Nat) (h : U8 zs) (hc : 0 ≤ c ∧ c ≤ 255) : U8 (fillF zs c size) := by
  intro z hz
  rcases List.mem_append.1 hz with h1 | h1
  · exact h z h1
  · obtain ⟨_, rfl⟩ := List.mem_replicate.1 h1; exact hc
def goesTo (zs : List Int) (s : Nat) : Bool := wholeF (fillF zs 128 s) || wholeF (fillF zs 191 s)
def beginsF (zs : List Int) : Bool := (List.range 5).any fun s => decide (zs.length < s) && goesTo zs s
theorem beginsF_iff (zs : List Int) : beginsF zs = true ↔ ∃ s, s < 5 ∧ zs.length < s ∧ goesTo zs s = true := by
  unfold beginsF; simp [List.any_eq_true]
set_option maxRecDepth 100000 in
set_option maxHeartbeats 1000000 in
theorem begins_some (b off len cap : Nat) (zs : List Int) (w : World) (hlen : zs.length = len) (h1 : 1 ≤ len) (h4 : len ≤ 4) (hat : At w .u8 b off zs) (hz : U8 zs) :
    Calls Try.prog 62 #[.slice (some ⟨b, off, none⟩) len cap] w (BoolPost (beginsF zs) w) := by
  have HL := Lib.hid hlen; clear hlen
  go_enter Try.func62, Try.ntmps62
  go_wp2
  go_loopw [3] (fun i wr => ∃ s : Nat, len + 1 ≤ s ∧ s ≤ 5 ∧ i = .int .i64 s ∧ (∀ t, len < t → t < s → goesTo zs t = false) ∧ Below w.heap.size w wr) (fun i _ => 5 - (intOf i).toNat)
  case atStart => exact ⟨len + 1, by omega, by omega, by go_num, fun t h h' => by omega, Below.refl _ _⟩
  case round =>
    obtain ⟨s, hs1, hs2, rfl, hno, hbl⟩ := hrel
    have HN := Lib.hid hno; clear hno
    by_cases hlt : s ≤ 4
    · have hlt' : (s : Int) ≤ 4 := by omega
      have hat1 := hat.later hbl hat.1
      go_wp2_with fail
      refine (filled_some b off len cap zs 128 s wr HL.out hlt h4 hat1).mono ?_
      rintro e w1 ⟨a, cp, rfl, ⟨hq1, hq2, hq3⟩, hb1⟩
      have hfl := fillF_len zs 128 s (by rw [HL.out]; omega)
      obtain ⟨b1, off1, rfl, hat2⟩ := hq3.resolve_left (by intro h; rw [h] at hfl; simp at hfl; omega)
      have HF := Lib.hid hfl
      rw [hfl]
      clear hfl
      have hbl1 := hbl.trans (hb1.mono hbl.size)
      go_wp2_with fail
      refine (whole_some b1 off1 s cp (fillF zs 128 s) w1 HF.out (by omega) hlt hat2 (fillF_u8 _ _ _ hz (by omega))).mono ?_
      rintro e w2 ⟨rfl, hb2⟩
      have hbl2 := hbl1.trans (hb2.mono hbl1.size)
      have hat3 := hat.later hbl2 hat.1
      clear hat1 hat2 hb1 hb2 hbl1
      by_cases hw1 : wholeF (fillF zs 128 s) = true
      · have HW := Lib.hid hw1
        rw [hw1]
        clear hw1
        go_wp2
        go_ret
        exact ⟨ret_bool (by
          rw [eq_comm, beginsF_iff]; exact ⟨s, by omega, by rw [HL.out]; omega, by unfold goesTo; rw [HW.out]; rfl⟩), hbl2⟩
      · have hw1' : wholeF (fillF zs 128 s) = false := by simpa using hw1
        have HW := Lib.hid hw1'
        rw [hw1']
        clear hw1 hw1'
        go_wp2_with fail
        refine (filled_some b off len cap zs 191 s w2 HL.out hlt h4 hat3).mono ?_
        rintro e w3 ⟨a, cp, rfl, ⟨hq1, hq2, hq3⟩, hb3⟩
        have hfl := fillF_len zs 191 s (by rw [HL.out]; omega)
        obtain ⟨b1, off1, rfl, hat4⟩ := hq3.resolve_left (by intro h; rw [h] at hfl; simp at hfl; omega)
        have HF := Lib.hid hfl
        rw [hfl]
        clear hfl
        have hbl3 := hbl2.trans (hb3.mono hbl2.size)
        go_wp2_with fail
        refine (whole_some b1 off1 s cp (fillF zs 191 s) w3 HF.out (by omega) hlt hat4 (fillF_u8 _ _ _ hz (by omega))).mono ?_
        rintro e w4 ⟨rfl, hb4⟩
        have hbl4 := hbl3.trans (hb4.mono hbl3.size)
        clear hat4 hat3 hb3 hb4 hbl3
        by_cases hw2 : wholeF (fillF zs 191 s) = true
        · have HW2 := Lib.hid hw2
          rw [hw2]
          clear hw2
          go_wp2
          go_ret
          exact ⟨ret_bool (by
            rw [eq_comm, beginsF_iff]; exact ⟨s, by omega, by rw [HL.out]; omega, by unfold goesTo; rw [HW2.out]; simp⟩), hbl4⟩
        · have hw2' : wholeF (fillF zs 191 s) = false := by simpa using hw2
          have HW2 := Lib.hid hw2'
          rw [hw2']
          clear hw2 hw2'
          go_wp2
          go_roundw
          case rel =>
            refine ⟨s + 1, by omega, by omega, by go_num, fun t h h' => ?_, hbl4⟩
            rcases Nat.lt_or_ge t s with h2 | h2
            · exact HN.out t h h2
            · rw [show t = s from by omega, goesTo, HW.out, HW2.out]; rfl
          case measure => simp [intOf]; omega
    · have hge : 4 < (s : Int) := by omega
      go_wp2
      go_ret
      refine ⟨ret_bool ?_, hbl⟩
      show false = _
      rw [eq_comm, ← Bool.not_eq_true, beginsF_iff]
      rintro ⟨t, ht, ht1, ht2⟩
      rw [HN.out t (by rw [HL.out] at ht1; exact ht1) (by omega)] at ht2
      cases ht2
end

section
open Go.RowKit
def FirstSpec (ys : List Int) (c : Int) (n : Nat) : Prop :=
  (1 ≤ n ∧ n ≤ 4 ∧ n ≤ ys.length ∧ wholeF (ys.take n) = true ∧ c = toldF (ys.take n)) ∨
  ((∀ s, 1 ≤ s → s ≤ 4 → s ≤ ys.length → wholeF (ys.take s) = false) ∧ c = 65533 ∧ 1 ≤ n ∧ n ≤ 3 ∧
    (n = 1 ∨ n ≤ ys.length ∧ beginsF (ys.take n) = true) ∧ (∀ s, n < s → s ≤ 3 → s ≤ ys.length → beginsF (ys.take s) = false))
def FirstPost (ys : List Int) (w : World) (e : Ending) (w' : World) : Prop :=
  ∃ (c : Int) (n : Nat), e = .returned (.tuple #[.int .i64 c, .int .i64 n]) ∧ FirstSpec ys c n ∧ Below w.heap.size w w'
set_option maxRecDepth 100000 in
set_option maxHeartbeats 1000000 in
theorem first_some (b off len cap p : Nat) (zs : List Int) (w : World) (hlen : zs.length = len) (hp : p < len) (hl : len ≤ cap) (hsm : len ≤ 1000000) (hat : At w .u8 b off zs) (hz : U8 zs) :
    Calls Try.prog 34 #[.slice (some ⟨b, off, none⟩) len cap, .int .i64 p] w (FirstPost (zs.drop p) w) := by
  have HL : Hid ((zs.drop p).length = len - p) := Lib.hid (by rw [List.length_drop, hlen])
  clear hlen
  have hatd := hat.drop p
  have hzd := hz.drop p
  generalize zs.drop p = ys at *
  clear hat hz
  go_enter Try.func34, Try.ntmps34
  go_wp2
  go_loopw [6] (fun i wr => ∃ s : Nat, 1 ≤ s ∧ s ≤ 5 ∧ i = .int .i64 s ∧ (∀ t, 1 ≤ t → t < s → t ≤ ys.length → wholeF (ys.take t) = false) ∧ (5 ≤ s ∨ s ≤ len - p + 1) ∧ Below w.heap.size w wr) (fun i _ => 5 - (intOf i).toNat)
  case atStart => exact ⟨1, by omega, by omega, rfl, fun t h h' => by omega, by omega, Below.refl _ _⟩
  case round =>
    obtain ⟨s, hs1, hs2, rfl, hno, hs3, hbl⟩ := hrel
    have HN := Lib.hid hno; clear hno
    have hat1 := hatd.later hbl hatd.1
    by_cases hlt : s ≤ 4 ∧ p + s ≤ len
    · obtain ⟨hlt1, hlt2⟩ := hlt
      go_wp2_with fail
      refine (whole_some b (off + p) s (cap - p) (ys.take s) wr (by rw [List.length_take, HL.out]; omega) hs1 hlt1 (hat1.take s) (hzd.take s)).mono ?_
      rintro e w1 ⟨rfl, hb1⟩
      have hbl1 := hbl.trans (hb1.mono hbl.size)
      have hat2 := hatd.later hbl1 hatd.1
      by_cases hw1 : wholeF (ys.take s) = true
      · have HW := Lib.hid hw1
        rw [hw1]
        clear hw1
        go_wp2_with fail
        refine (told_some b (off + p) s (cap - p) (ys.take s) w1 (by rw [List.length_take, HL.out]; omega) hs1 hlt1 (hat2.take s) (hzd.take s)).mono ?_
        rintro e w2 ⟨rfl, hb2⟩
        have hbl2 := hbl1.trans (hb2.mono hbl1.size)
        go_wp2
        go_ret2
        exact ⟨_, s, rfl, .inl ⟨hs1, hlt1, by rw [HL.out]; omega, HW.out, rfl⟩, hbl2⟩
      · have hw1' : wholeF (ys.take s) = false := by simpa using hw1
        have HW := Lib.hid hw1'
        rw [hw1']
        clear hw1 hw1'
        go_wp2
        go_roundw
        case rel =>
          refine ⟨s + 1, by omega, by omega, by go_num, fun t h1 h2 h3 => ?_, by omega, hbl1⟩
          rcases Nat.lt_or_ge t s with h | h
          · exact HN.out t h1 h h3
          · rw [show t = s from by omega]; exact HW.out
        case measure => simp [intOf]; omega
    · have hall : ∀ t, 1 ≤ t → t ≤ 4 → t ≤ ys.length → wholeF (ys.take t) = false := fun t h1 h2 h3 => HN.out t h1 (by rw [HL.out] at h3; omega) h3
      have HA := Lib.hid hall; clear hall
      have hor : 4 < (s : Int) ∨ ((s : Int) ≤ 4 ∧ (len : Int) < (p : Int) + (s : Int)) := by omega
      rcases hor with hor | ⟨hor1, hor2⟩
      all_goals
        go_wp2
        go_loopw [7] (fun i wr => ∃ s : Nat, 1 ≤ s ∧ s ≤ 3 ∧ i = .int .i64 s ∧ (∀ t, s < t → t ≤ 3 → t ≤ ys.length → beginsF (ys.take t) = false) ∧ Below w.heap.size w wr) (fun i _ => (intOf i).toNat)
        case atStart => exact ⟨3, by omega, by omega, rfl, fun t h h' => by omega, hbl⟩
        case round =>
          obtain ⟨s2, hs4, hs5, rfl, hno2, hbl2⟩ := hrel
          have HN2 := Lib.hid hno2; clear hno2
          have hat3 := hatd.later hbl2 hatd.1
          by_cases hgt : 1 < s2
          · have hgt' : (1 : Int) < (s2 : Int) := by omega
            by_cases hle : p + s2 ≤ len
            · have hle' : (p : Int) + (s2 : Int) ≤ (len : Int) := by omega
              go_wp2_with fail
              refine (begins_some b (off + p) s2 (cap - p) (ys.take s2) _ (by rw [List.length_take, HL.out]; omega) hs4 (by omega) (hat3.take s2) (hzd.take s2)).mono ?_
              rintro e w3 ⟨rfl, hb3⟩
              have hbl3 := hbl2.trans (hb3.mono hbl2.size)
              by_cases hw2 : beginsF (ys.take s2) = true
              · have HW := Lib.hid hw2
                rw [hw2]
                clear hw2
                go_wp2
                go_ret2
                exact ⟨_, s2, rfl, .inr ⟨HA.out, rfl, hs4, hs5, .inr ⟨by rw [HL.out]; omega, HW.out⟩, fun t h1 h2 h3 => HN2.out t h1 h2 h3⟩, hbl3⟩
              · have hw2' : beginsF (ys.take s2) = false := by simpa using hw2
                have HW := Lib.hid hw2'
                rw [hw2']
                clear hw2 hw2'
                go_wp2
                go_roundw
                case rel =>
                  refine ⟨s2 - 1, by omega, by omega, by go_num, fun t h1 h2 h3 => ?_, hbl3⟩
                  rcases Nat.lt_or_ge s2 t with h | h
                  · exact HN2.out t h h2 h3
                  · rw [show t = s2 from by omega]; exact HW.out
                case measure => simp [intOf]; omega
            · have hle' : decide ((p : Int) + (s2 : Int) ≤ (len : Int)) = false := by rw [decide_eq_false_iff_not]; omega
              go_wp2
              go_roundw
              case rel =>
                refine ⟨s2 - 1, by omega, by omega, by go_num, fun t h1 h2 h3 => ?_, hbl2⟩
                rcases Nat.lt_or_ge s2 t with h | h
                · exact HN2.out t h h2 h3
                · rw [HL.out] at h3; omega
              case measure => simp [intOf]; omega
          · have : s2 = 1 := by omega
            subst this
            go_wp2
            go_ret2
            exact ⟨_, 1, rfl, .inr ⟨HA.out, rfl, by omega, by omega, .inl rfl, fun t h1 h2 h3 => HN2.out t h1 h2 h3⟩, hbl2⟩
end
end Go.Proofs.Ytelbjnanpmdnnaa
