/- DecodeBack: the law's walk. -/
import Derived.Test.YtmcboiopglpbkaaBack
import Derived.Test.YtmcboiopglpbkaaReads
import Derived.Test.YtmcboiopglpbkaaPrepares2
namespace Go.Proofs.Ytmcboiopglpbkaa
open Go.RowKit

set_option maxHeartbeats 1000000 in
theorem lawBack_long (a : Option Addr) (len cap : Nat) (w : World) (hl : 2000 < len) :
    Calls Try.prog 5 #[.slice a len cap] w (LawPost w) := by
  go_enter Try.func5, Try.ntmps5
  go_wp2_with fail
  refine (speaks_any _).mono ?_
  rintro e w1 ⟨rfl, hb1⟩
  go_wp2
  go_ret
  exact ⟨rfl, hb1⟩

theorem map_snoc (zs : List Int) (k : Nat) (h : k < zs.length) : (zs.take (k + 1)).map charOf = (zs.take k).map charOf ++ [charOf (zs[k]?.getD 0)] := by
  rw [List.take_add_one, List.getElem?_eq_getElem h, List.map_append]; rfl
theorem charOf_bd (c : Int) : 0 ≤ charOf c ∧ charOf c < 1114112 := right_bd (charOf_right c)

/-- A list without its first number, as a slice. -/
theorem reads_tail {w : World} {k : IntKind} {b off cap : Nat} {z : Int} {zs : List Int} (h : Reads w k (some ⟨b, off, none⟩) cap (z :: zs)) : Reads w k (some ⟨b, off + 1, none⟩) (cap - 1) zs := by
  obtain ⟨h1, h2, h3⟩ := h
  rw [List.length_cons] at h1
  refine ⟨by omega, by omega, .inr ⟨b, off + 1, rfl, ?_⟩⟩
  rcases h3 with h | ⟨b', off', hb, hat⟩
  · cases h
  · cases hb
    have := hat.drop 1
    simpa using this

set_option maxHeartbeats 2000000 in
/-- What stands behind the law's first loop. -/
theorem lawBack_some (b off len cap : Nat) (zs : List Int) (w : World) (hlen : zs.length = len) (h1 : 1 ≤ len) (hsm : len ≤ 2000) (hl : len ≤ cap) (hcap : cap ≤ maxLen) (hat : At w .i64 b off zs) (hz : I64 zs) :
    Calls Try.prog 5 #[.slice (some ⟨b, off, none⟩) len cap] w (LawPost w) := by
  obtain ⟨i0, hi, hz0, hz1, hz2⟩ := info_parts Try.info3
  have hcap' := hcap
  unfold maxLen at hcap'
  have H0 := Lib.hid hlen; clear hlen
  have HC := Lib.hid hcap; clear hcap
  go_enter Try.func5, Try.ntmps5
  go_wp2_with fail
  refine (speaks_any _).mono ?_
  rintro e w1 ⟨rfl, hb1⟩
  have own0 := World.ownsRow_made (base := w1.heap.size) (e := 3) (size := 1) w1 #[] 0 (Nat.le_refl _) (by simp [maxLen]) (by simp)
  go_wp2
  go_loopw [3, 15] (fun v i wr => ∃ k : Nat, k ≤ len ∧ i = .int .i64 k ∧ wr.ownsRow w1.heap.size 3 1 v ((zs.take k).map charOf).length (((zs.take k).map charOf).map (Value.int .i64)) ∧ Below w1.heap.size w1 wr)
    (fun _ i _ => len - (intOf i).toNat)
  case atStart => exact ⟨0, by omega, rfl, own0, (Below.refl _ w1).alloc (Nat.le_refl _) _⟩
  case round =>
    obtain ⟨k, hk, rfl, hown, hbl⟩ := hrel
    have hblw := hb1.trans (hbl.mono hb1.size)
    by_cases hlt : k < len
    · have hkz : k < zs.length := by rw [H0.out]; exact hlt
      have HT := Lib.hid (map_snoc zs k hkz)
      have hll : ((zs.take k).map charOf).length ≤ k := by rw [List.length_map, List.length_take]; omega
      have hc := (hat.later hblw hat.1).2 k hkz
      have hcz := hz.at k
      clear hkz
      generalize zs[k]?.getD 0 = c at hc HT hcz
      generalize (zs.take k).map charOf = acc at *
      by_cases hrc : rightB c = true
      · have HX : Hid (charOf c = c) := Lib.hid (by unfold charOf; rw [if_pos hrc])
        go_wp2_with fail
        refine (refRight_any c wr).mono ?_
        rintro e w2 ⟨he, rfl⟩
        rw [hrc] at he
        subst he
        clear hrc
        go_wp2_with (at_builtin; refine wpList_append_reads rfl _ _ 24 rfl w1.heap.size 3 i0 .i64 8 Try.underlying24 hi hz0 hz1 hz2 _ acc.length acc rfl (hown.alloc _) rfl (some ⟨wr.heap.size, 0, none⟩) 1 1 [c] rfl rfl (reads_new wr .i64 _ 3 1 rfl (by unfold maxLen; omega)) (fun h => by cases h) (by unfold maxLen; omega) (by omega) (by have := hbl.size; simp; omega) ?_; intro v' w4 hown4 hgrow4)
        have hbl4 : Below w1.heap.size w1 w4 := (hbl.alloc hbl.size _).grown hgrow4 (by have := hbl.size; simp; omega) (fun j hj => (hown.lt j hj).1)
        go_roundw
        case rel => exact ⟨k + 1, by omega, by go_num, by rw [HT.out, HX.out]; exact hown4, hbl4⟩
        case measure => simp [intOf]; omega
      · have hrf : rightB c = false := by simpa using hrc
        have HX : Hid (charOf c = 65533) := Lib.hid (by unfold charOf; rw [if_neg hrc])
        go_wp2_with fail
        refine (refRight_any c wr).mono ?_
        rintro e w2 ⟨he, rfl⟩
        rw [hrf] at he
        subst he
        clear hrc hrf
        go_wp2_with (at_builtin; refine wpList_append_reads rfl _ _ 24 rfl w1.heap.size 3 i0 .i64 8 Try.underlying24 hi hz0 hz1 hz2 _ acc.length acc rfl (hown.alloc _) rfl (some ⟨wr.heap.size, 0, none⟩) 1 1 [65533] rfl rfl (reads_new wr .i64 _ 3 1 rfl (by unfold maxLen; omega)) (fun h => by cases h) (by unfold maxLen; omega) (by omega) (by have := hbl.size; simp; omega) ?_; intro v' w4 hown4 hgrow4)
        have hbl4 : Below w1.heap.size w1 w4 := (hbl.alloc hbl.size _).grown hgrow4 (by have := hbl.size; simp; omega) (fun j hj => (hown.lt j hj).1)
        go_roundw
        case rel => exact ⟨k + 1, by omega, by go_num, by rw [HT.out, HX.out]; exact hown4, hbl4⟩
        case measure => simp [intOf]; omega
    · have hkl : k = len := by omega
      have he : (zs.take k).map charOf = zs.map charOf := by rw [List.take_of_length_le (by rw [H0.out]; omega)]
      rw [he] at hown
      have hatr : Reads wr .i64 (some ⟨b, off, none⟩) cap zs := ⟨by rw [H0.out]; exact hl, HC.out, .inr ⟨b, off, rfl, hat.later hblw hat.1⟩⟩
      obtain ⟨aw, cw, hv, hrw⟩ := Reads.of_owns hown
      have hwl : (zs.map charOf).length = len := by rw [List.length_map, H0.out]
      have hwbd : ∀ z ∈ zs.map charOf, 0 ≤ z ∧ z < 1114112 := fun z hz => by obtain ⟨d, _, rfl⟩ := List.mem_map.1 hz; exact charOf_bd d
      have HD := Lib.hid (chars_text zs)
      generalize zs.map charOf = want at *
      rw [hwl] at hv
      subst hv
      clear hown he
      have HWL := Lib.hid hwl; clear hwl
      go_wp2_with fail
      refine (text_any (some ⟨b, off, none⟩) cap len zs wr H0.out hatr (by omega)).mono ?_
      rintro e w2 ⟨a2, c2, rfl, hr2, hb2, _, _⟩
      have htl := textF_len zs
      rw [H0.out] at htl
      go_wp2_with fail
      refine (chars_any a2 c2 (textF zs) w2 hr2 (textF_u8 zs) (by omega)).mono ?_
      rintro e w3 ⟨a3, c3, rfl, hr3, hb3, _⟩
      rw [HD.out] at hr3 ⊢
      have hb23 := hb2.trans (hb3.mono hb2.size)
      have hrw3 := hrw.later hb23
      have hblw3 := hblw.trans (hb23.mono hblw.size)
      clear hrw hr2 hb2 hb3
      obtain ⟨z, want, rfl⟩ : ∃ z r, want = z :: r := List.exists_cons_of_ne_nil (by intro h; have := HWL.out; rw [h] at this; simp at this; omega)
      have hwl := HWL.out
      obtain ⟨bw, offw, haw, hatw⟩ := hrw3.2.2.resolve_left (by simp)
      subst haw
      have hzc := hatw.2 0 (by simp)
      simp only [List.getElem?_cons_zero, Option.getD_some, Nat.add_zero] at hzc
      have hbd := hwbd z (by simp)
      have hcw := hrw3.1
      have hcw2 := hrw3.2.1
      unfold maxLen at hcw2
      rw [hwl] at hcw
      rw [List.length_cons] at hwl
      have HWL2 := Lib.hid hwl; clear hwl
      by_cases hm : z = 65279
      · have HDM : Hid (dropMark (z :: want) = want) := Lib.hid (by rw [dropMark, if_pos hm])
        have hrt := reads_tail hrw3
        rw [HDM.out] at hr3 ⊢
        subst hm
        by_cases hc1 : cw = 1
        · subst hc1
          have hl1 : len = 1 := by omega
          subst hl1
          have hw0 : want = [] := List.length_eq_zero_iff.1 (by have := HWL2.out; omega)
          subst hw0
          go_wp2_with fail
          refine (same_yes' a3 _ 0 0 c3 0 [] w3 rfl rfl hr3 ⟨by simp, by simp, .inl rfl⟩).mono ?_
          rintro e w4 ⟨rfl, hb4⟩
          go_wp2
          go_ret
          exact ⟨rfl, hblw3.trans (hb4.mono hblw3.size)⟩
        · go_wp2_with fail
          refine (same_yes' a3 _ want.length (len - 1) c3 (cw - 1) want w3 rfl (by have := HWL2.out; omega) hr3 hrt).mono ?_
          rintro e w4 ⟨rfl, hb4⟩
          go_wp2
          go_ret
          exact ⟨rfl, hblw3.trans (hb4.mono hblw3.size)⟩
      · have HDM : Hid (dropMark (z :: want) = z :: want) := Lib.hid (by rw [dropMark, if_neg hm])
        rw [HDM.out] at hr3 ⊢
        have hm' : (z == 65279) = false := by rw [beq_eq_false_iff_ne]; exact hm
        go_wp2_with fail
        refine (same_yes' a3 _ _ len c3 cw (z :: want) w3 rfl HWL.out hr3 hrw3).mono ?_
        rintro e w4 ⟨rfl, hb4⟩
        go_wp2
        go_ret
        exact ⟨rfl, hblw3.trans (hb4.mono hblw3.size)⟩

set_option maxHeartbeats 1000000 in
theorem lawBack_none (a : Option Addr) (cap : Nat) (w : World) (hcap : cap ≤ maxLen) : Calls Try.prog 5 #[.slice a 0 cap] w (LawPost w) := by
  go_enter Try.func5, Try.ntmps5
  go_wp2_with fail
  refine (speaks_any _).mono ?_
  rintro e w1 ⟨rfl, hb1⟩
  go_wp2
  refine wp_loop_rounds 1 ?_; rw [rounds_succ]
  go_wp2_with fail
  refine (text_any a cap 0 [] _ rfl ⟨by simp, hcap, .inl rfl⟩ (by omega)).mono ?_
  rintro e w2 ⟨a2, c2, rfl, hr2, hb2, _, _⟩
  have hb2' : Below w.heap.size w w2 := (hb1.alloc hb1.size _).trans (hb2.mono (by have := hb1.size; simp; omega))
  go_wp2_with fail
  refine (chars_any a2 c2 (textF []) w2 hr2 (textF_u8 []) (by simp [textF])).mono ?_
  rintro e w3 ⟨a3, c3, rfl, hr3, hb3, _⟩
  have hb3' := hb2'.trans (hb3.mono hb2'.size)
  rw [show charsF (textF []) = [] from rfl] at hr3 ⊢
  go_wp2_with fail
  refine (same_yes' a3 _ 0 0 c3 0 [] w3 rfl rfl hr3 ⟨by simp, by simp, .inl rfl⟩).mono ?_
  rintro e w4 ⟨rfl, hb4⟩
  go_wp2
  go_ret
  exact ⟨rfl, hb3'.trans (hb4.mono hb3'.size)⟩

theorem lawBack_any (a : Option Addr) (cap : Nat) (zs : List Int) (w : World) (hr : Reads w .i64 a cap zs) (hz : I64 zs) :
    Calls Try.prog 5 #[.slice a zs.length cap] w (LawPost w) := by
  obtain ⟨h1, h2, h3⟩ := hr
  by_cases hsm : zs.length ≤ 2000
  · by_cases h0 : zs = []
    · subst h0; exact lawBack_none a cap w h2
    · obtain ⟨b, off, rfl, hat⟩ := h3.resolve_left h0
      exact lawBack_some b off zs.length cap zs w rfl (List.length_pos_iff.2 h0) hsm h1 h2 hat hz
  · exact lawBack_long a zs.length cap w (by omega)
end Go.Proofs.Ytmcboiopglpbkaa
