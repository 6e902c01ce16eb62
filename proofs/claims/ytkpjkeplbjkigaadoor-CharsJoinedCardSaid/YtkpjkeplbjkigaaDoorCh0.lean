/- The characters of a text, and what a builder's text is: walks. -/
import Derived.Test.YtkpjkeplbjkigaaDoorEsc
import Derived.Test.YtkpjkeplbjkigaaDoorRaw
import Derived.Test.YtkpjkeplbjkigaaDoorShelfB
namespace Go.Proofs.YtkpjkeplbjkigaaDoor
open Go.RowKit

/-- The post of a call that tells bytes in a row that it has made. -/
def OwnPost (zs : List Int) (w : World) (e : Ending) (w' : World) : Prop :=
  ∃ v, e = .returned v ∧ w'.ownsRow w.heap.size 5 1 v zs.length (zs.map (Value.int .u8)) ∧ Below w.heap.size w w'

set_option maxRecDepth 100000 in
set_option maxHeartbeats 1000000 in
theorem text_owns (b off len cap : Nat) (zs : List Int) (w : World) (hlen : zs.length = len) (h1 : 1 ≤ len) (hl : len ≤ cap) (hcap : cap ≤ maxLen) (hat : At w .i64 b off zs) (hsm : len ≤ 100000) :
    Calls Tryd.prog 58 #[.slice (some ⟨b, off, none⟩) len cap] w (OwnPost (textF zs) w) := by
  obtain ⟨i0, hi, hz0, hz1, hz2⟩ := info_parts Tryd.info5
  unfold maxLen at hcap
  have H0 := Lib.hid hlen; clear hlen
  go_enter Tryd.func58, Tryd.ntmps58
  go_wp2_with (refine wpList_make_own _ rfl _ _ 30 rfl w.heap.size 5 i0 (.int .u8 0) 1 Tryd.underlying30 hi hz0 hz1 .i64 .i64 _ len rfl rfl rfl (by rw [hz2]; omega) (by unfold maxLen; omega) (Nat.le_refl _) ?_; intro w1 hown1 hgrow1)
  go_loopw [3, 11] (fun v i wr => ∃ k : Nat, k ≤ len ∧ i = .int .i64 k ∧ wr.ownsRow w.heap.size 5 1 v (textF (zs.take k)).length ((textF (zs.take k)).map (Value.int .u8)) ∧ Below w.heap.size w wr)
    (fun _ i _ => len - (intOf i).toNat)
  case atStart => exact ⟨0, by omega, rfl, hown1, Below.of_grown hgrow1 (Nat.le_refl _) (by rintro _ ⟨⟩)⟩
  case round =>
    obtain ⟨k, hk, rfl, hown, hbl⟩ := hrel
    by_cases hlt : k < len
    · have hkz : k < zs.length := by rw [H0.out]; exact hlt
      have HT := Lib.hid (textF_snoc zs k hkz)
      have hll := textF_len (zs.take k)
      rw [List.length_take] at hll
      have hc := (hat.later hbl hat.1).2 k hkz
      clear hkz
      generalize zs[k]?.getD 0 = c at hc HT
      generalize textF (zs.take k) = acc at *
      have hrc := charOf_right c
      go_wp2_with fail
      refine (character_any c wr).mono ?_
      rintro e w2 ⟨rfl, rfl⟩
      go_wp2_with fail
      refine (rune_any _ acc (charOf c) w.heap.size wr hown hbl.size (by omega) hrc).mono ?_
      rintro e w3 ⟨v', rfl, hown3, hg3⟩
      have hbl3 : Below w.heap.size w w3 := hbl.grown hg3 hbl.size (fun j hj => (hown.lt j hj).1)
      go_wp2
      go_roundw
      case rel => exact ⟨k + 1, by omega, by go_num, by rw [HT.out]; exact hown3, hbl3⟩
      case measure => simp [intOf]; omega
    · have hkl : k = len := by omega
      go_wp2
      go_ret
      have he : textF (zs.take k) = textF zs := by rw [List.take_of_length_le (by rw [H0.out]; omega)]
      rw [he] at hown
      exact ⟨_, rfl, hown, hbl⟩

/-- The post of a call that tells numbers. -/
def IntsPost (zs : List Int) (w : World) (e : Ending) (w' : World) : Prop :=
  ∃ a cap, e = .returned (.slice a zs.length cap) ∧ Reads w' .i64 a cap zs ∧ Below w.heap.size w w' ∧ Fresh w.heap.size a ∧ ∀ ad, a = some ad → ∃ cur, w'.heap[ad.block]? = some (.cells cur 3 (0, 0))

theorem textF_mark : textF [65279] = putF 65279 := by decide +kernel
theorem chars_marked (zs : List Int) (hz : U8 zs) : charsF (putF 65279 ++ zs) = rawF zs := by
  rw [charsF_raw, rawF_put 65279 (by decide) zs hz]
  rfl

set_option maxRecDepth 100000 in
set_option maxHeartbeats 1000000 in
theorem characters_any (s : ByteArray) (w : World) (hs : s.size ≤ 100000) : Calls Tryd.prog 35 #[.string s] w (IntsPost (rawF (strI s)) w) := by
  obtain ⟨i0, hi, hz0, hz1, hz2⟩ := info_parts Tryd.info5
  have hat : At (w.alloc (.cells #[.int .i64 65279] 3)) .i64 w.heap.size 0 [65279] := by
    obtain ⟨h1, h2, h3⟩ := reads_new w .i64 [65279] 3 1 rfl (by unfold maxLen; omega)
    rcases h3 with h | ⟨b, off, h, hat⟩
    · cases h
    · cases h; exact hat
  have cT := text_owns w.heap.size 0 1 1 [65279] _ rfl (Nat.le_refl _) (Nat.le_refl _) (by unfold maxLen; omega) hat (by omega)
  rw [textF_mark] at cT
  have hb0 : Below w.heap.size w (w.alloc (.cells #[.int .i64 65279] 3)) := (Below.refl _ w).alloc (Nat.le_refl _) _
  clear hat
  go_enter Tryd.func35, Tryd.ntmps35
  go_wp2_with fail
  refine cT.mono ?_
  rintro e w1 ⟨v1, rfl, hown1, hb1⟩
  have hl3 : (putF 65279).length = 3 := by decide +kernel
  rw [hl3, World.size_alloc] at hown1
  have hsz1 : w.heap.size + 1 ≤ w1.heap.size := by have := hb1.size; simp at this; omega
  go_wp2_with (at_builtin; refine Lib.wpList_append_own_string w1 rfl _ _ 30 9 rfl (w.heap.size + 1) 5 i0 Tryd.underlying30 Tryd.underlying9 hi hz0 hz1 hz2 _ 3 _ rfl hown1 s rfl (by unfold maxLen; omega) (by omega) hsz1 ?_; intro v2 w2 hown2 hgrow2 _)
  have hown3 : w2.ownsRow (w.heap.size + 1) 5 1 v2 (putF 65279 ++ strI s).length ((putF 65279 ++ strI s).map (Value.int .u8)) := by
    have := owns_cast (k := .u8) hown2 (putF 65279 ++ strI s) (by rw [strI_cells, List.map_append])
    exact this
  obtain ⟨a2, c2, hv2, hrd⟩ := Reads.of_owns hown3
  have hu8 : U8 (putF 65279 ++ strI s) := fun z hz => (List.mem_append.1 hz).elim (putF_u8 65279 (by decide) z) (strI_u8 s z)
  have hlen : (putF 65279 ++ strI s).length = 3 + s.size := by rw [List.length_append, hl3, strI_len]
  have cC := chars_anyT a2 c2 (putF 65279 ++ strI s) w2 hrd hu8 (by rw [hlen]; omega)
  have hb2 : Below w.heap.size w w2 := (below_trans hb0 hb1).grown hgrow2 (below_trans hb0 hb1).size (fun j hj => by have := (hown1.lt j hj).1; omega)
  rw [hv2]
  refine cC.mono ?_
  rintro e w3 ⟨a3, c3, rfl, hr3, hb3, hf3, _, ht3⟩
  rw [chars_marked _ (strI_u8 s)] at hr3 ⊢
  go_wp2
  go_ret
  exact ⟨a3, c3, rfl, hr3, below_trans hb2 hb3, fun ad h => Nat.le_trans hb2.size (hf3 ad h), ht3⟩

/-- The text of a builder. -/
theorem bstring_any (B b : Nat) (acc : List Int) (w : World) (h : Bld w B b acc) (hu : U8 acc) (hb : b ≤ B) :
    Calls Tryd.prog 43 #[.pointer (some ⟨b, 0, none⟩)] w fun e w' => e = .returned (.string (strOfNums acc)) ∧ Below b w w' := by
  have hcells : Lib.byteCells (acc.map fun n => UInt8.ofNat n.toNat) = acc.map (Value.int .u8) := by
    unfold Lib.byteCells
    rw [List.map_map]
    refine List.map_congr_left fun n hn => ?_
    have := hu n hn
    simp only [Function.comp, Value.int.injEq, true_and]
    rw [UInt8.toNat_ofNat']
    omega
  have hB : Lib.IsBuilder 49 5 b b (Lib.byteCells (acc.map fun n => UInt8.ofNat n.toNat)) w := by
    rw [hcells]
    obtain ⟨p, v, hp, h2, h3, h4⟩ := h
    have h5 : w.ownsRow b 5 1 v acc.length (acc.map (Value.int .u8)) := ⟨h3.1, h3.2.imp id (fun ⟨g, cap, cur, e1, e2, e3⟩ => ⟨g, cap, cur, e1, Nat.le_trans hb e2, e3⟩)⟩
    rcases hp with rfl | rfl
    · exact .inl ⟨Nat.le_refl _, v, h2, by rw [List.length_map]; exact h5, h4⟩
    · exact .inr ⟨Nat.le_refl _, v, h2, by rw [List.length_map]; exact h5, h4⟩
  have hbw : b ≤ w.heap.size := by obtain ⟨p, v, hp, h2, h3, h4⟩ := h; exact Nat.le_of_lt (lt_of_block h2)
  exact Tryd.Builder_String_any b b _ w hB hbw
end Go.Proofs.YtkpjkeplbjkigaaDoor
