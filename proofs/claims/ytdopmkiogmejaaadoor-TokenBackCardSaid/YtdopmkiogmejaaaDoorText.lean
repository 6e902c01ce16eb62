/- Characters as bytes, by the program and by the document's answer: walks. -/
import Derived.Test.YtdopmkiogmejaaaDoorRune
import Derived.Test.YtdopmkiogmejaaaDoorWhole
namespace Go.Proofs.YtdopmkiogmejaaaDoor
open Go.RowKit

/-- A number as a character. -/
def charOf (c : Int) : Int := if rightB c = true then c else 65533
theorem charOf_right (c : Int) : rightB (charOf c) = true := by
  unfold charOf; split
  · assumption
  · decide
theorem right_bd {c : Int} (h : rightB c = true) : 0 ≤ c ∧ c < 1114112 := by
  unfold rightB at h; rw [decide_eq_true_iff] at h; exact ⟨h.1, h.2.1⟩

set_option maxRecDepth 100000 in
set_option maxHeartbeats 400000 in
theorem character_any (c : Int) (w : World) :
    Calls Tryd.prog 24 #[.int .i64 c] w fun e w' => e = .returned (.int .i32 (charOf c)) ∧ w = w' := by
  by_cases h : rightB c = true
  · have HP : Hid (charOf c = c) := Lib.hid (by unfold charOf; rw [if_pos h])
    unfold rightB at h
    rw [decide_eq_true_iff] at h
    obtain ⟨h1, h2, h3⟩ := h
    rcases h3 with h3 | h3
    all_goals
      go_enter Tryd.func24, Tryd.ntmps24
      go_wp2
      go_ret
      exact ⟨ret_int HP.out.symm, rfl⟩
  · have HP : Hid (charOf c = 65533) := Lib.hid (by unfold charOf; rw [if_neg h])
    unfold rightB at h
    rw [decide_eq_true_iff] at h
    have h' : c < 0 ∨ 1114111 < c ∨ (55296 ≤ c ∧ c ≤ 57343) := by omega
    clear h
    rcases h' with h | h | ⟨h, h'⟩
    all_goals
      go_enter Tryd.func24, Tryd.ntmps24
      go_wp2
      all_goals
        go_ret
        exact ⟨ret_int HP.out.symm, rfl⟩

/-- Characters as bytes. -/
def textF (zs : List Int) : List Int := zs.flatMap fun c => putF (charOf c)
theorem textF_snoc (zs : List Int) (k : Nat) (h : k < zs.length) : textF (zs.take (k + 1)) = textF (zs.take k) ++ putF (charOf (zs[k]?.getD 0)) := by
  unfold textF
  rw [List.take_add_one, List.getElem?_eq_getElem h, List.flatMap_append]
  simp
theorem putF_len (c : Int) : (putF c).length ≤ 4 := by
  unfold putF; (repeat' split) <;> simp
theorem textF_len (zs : List Int) : (textF zs).length ≤ 4 * zs.length := by
  unfold textF
  induction zs with
  | nil => simp
  | cons z zs ih => rw [List.flatMap_cons, List.length_append, List.length_cons]; have := putF_len (charOf z); omega
theorem textF_u8 (zs : List Int) : U8 (textF zs) := by
  intro z hz
  obtain ⟨c, _, hc⟩ := List.mem_flatMap.1 hz
  exact putF_u8 _ (charOf_right c) z hc

/-- The post of a call that tells bytes in new memory. -/
def NewPost (k : IntKind) (zs : List Int) (w : World) (e : Ending) (w' : World) : Prop :=
  ∃ a cap, e = .returned (.slice a zs.length cap) ∧ Reads w' k a cap zs ∧ Below w.heap.size w w' ∧ Fresh w.heap.size a ∧ (a = none → cap = 0)

theorem newPost_of_owns {w w' : World} {e : TypeId} {k : IntKind} {v : Value} {zs : List Int} (h : w'.ownsRow w.heap.size e 1 v zs.length (zs.map (Value.int k))) (hb : Below w.heap.size w w') : NewPost k zs w (.returned v) w' := by
  obtain ⟨a, cap, hv, hrd⟩ := Reads.of_owns h
  exact ⟨a, cap, by rw [hv], hrd, hb, Fresh.of_owns h hv, nil_of_owns h hv⟩

set_option maxRecDepth 100000 in
set_option maxHeartbeats 1000000 in
theorem text_some (b off len cap : Nat) (zs : List Int) (w : World) (hlen : zs.length = len) (h1 : 1 ≤ len) (hl : len ≤ cap) (hcap : cap ≤ maxLen) (hat : At w .i64 b off zs) (hsm : len ≤ 100000) :
    Calls Tryd.prog 61 #[.slice (some ⟨b, off, none⟩) len cap] w (NewPost .u8 (textF zs) w) := by
  obtain ⟨i0, hi, hz0, hz1, hz2⟩ := info_parts Tryd.info5
  unfold maxLen at hcap
  have H0 := Lib.hid hlen; clear hlen
  go_enter Tryd.func61, Tryd.ntmps61
  go_wp2_with (refine wpList_make_own _ rfl _ _ 24 rfl w.heap.size 5 i0 (.int .u8 0) 1 Tryd.underlying24 hi hz0 hz1 .i64 .i64 _ len rfl rfl rfl (by rw [hz2]; omega) (by unfold maxLen; omega) (Nat.le_refl _) ?_; intro w1 hown1 hgrow1)
  go_loopw [3, 11] (fun v i wr => ∃ k : Nat, k ≤ len ∧ i = .int .i64 k ∧ wr.ownsRow w.heap.size 5 1 v (textF (zs.take k)).length ((textF (zs.take k)).map (Value.int .u8)) ∧ Below w.heap.size w wr)
    (fun _ i _ => len - (intOf i).toNat)
  case atStart => exact ⟨0, by omega, rfl, hown1, Below.of_grown hgrow1 (Nat.le_refl _) (by rintro _ ⟨⟩)⟩
  case round =>
    obtain ⟨k, hk, rfl, hown, hbl⟩ := hrel
    by_cases hlt : k < len
    · have hkz : k < zs.length := by rw [H0.out]; exact hlt
      have HT := Lib.hid (textF_snoc zs k hkz)
      have hll := textF_len (zs.take k)
      rw [List.length_take] at hll
      have hc := (hat.later hbl hat.1).2 k hkz
      clear hkz
      generalize zs[k]?.getD 0 = c at hc HT
      generalize textF (zs.take k) = acc at *
      have hrc := charOf_right c
      go_wp2_with fail
      refine (character_any c wr).mono ?_
      rintro e w2 ⟨rfl, rfl⟩
      go_wp2_with fail
      refine (rune_any _ acc (charOf c) w.heap.size wr hown hbl.size (by omega) hrc).mono ?_
      rintro e w3 ⟨v', rfl, hown3, hg3⟩
      have hbl3 : Below w.heap.size w w3 := hbl.grown hg3 hbl.size (fun j hj => (hown.lt j hj).1)
      go_wp2
      go_roundw
      case rel => exact ⟨k + 1, by omega, by go_num, by rw [HT.out]; exact hown3, hbl3⟩
      case measure => simp [intOf]; omega
    · have hkl : k = len := by omega
      go_wp2
      go_ret
      have he : textF (zs.take k) = textF zs := by rw [List.take_of_length_le (by rw [H0.out]; omega)]
      rw [he] at hown
      exact newPost_of_owns hown hbl

set_option maxRecDepth 100000 in
set_option maxHeartbeats 400000 in
theorem text_none (a : Option Addr) (cap : Nat) (w : World) : Calls Tryd.prog 61 #[.slice a 0 cap] w (NewPost .u8 (textF []) w) := by
  obtain ⟨i0, hi, hz0, hz1, hz2⟩ := info_parts Tryd.info5
  go_enter Tryd.func61, Tryd.ntmps61
  go_wp2_with (refine wpList_make_own _ rfl _ _ 24 rfl w.heap.size 5 i0 (.int .u8 0) 1 Tryd.underlying24 hi hz0 hz1 .i64 .i64 _ 0 rfl rfl rfl (by rw [hz2]; omega) (by unfold maxLen; omega) (Nat.le_refl _) ?_; intro w1 hown1 hgrow1)
  refine wp_loop_rounds 1 ?_; rw [rounds_succ]
  go_wp2
  go_ret
  exact newPost_of_owns (zs := textF []) hown1 (Below.of_grown hgrow1 (Nat.le_refl _) (by rintro _ ⟨⟩))

/-- What Text does. -/
theorem text_any (a : Option Addr) (cap n : Nat) (zs : List Int) (w : World) (hn : zs.length = n) (hr : Reads w .i64 a cap zs) (hsm : n ≤ 100000) :
    Calls Tryd.prog 61 #[.slice a n cap] w (NewPost .u8 (textF zs) w) := by
  obtain ⟨h1, h2, h3⟩ := hr
  by_cases h0 : zs = []
  · subst h0; subst hn; exact text_none _ cap w
  · obtain ⟨b, off, rfl, hat⟩ := h3.resolve_left h0
    exact text_some b off n cap zs w hn (by rw [← hn]; exact List.length_pos_iff.2 h0) (by omega) h2 hat hsm

end Go.Proofs.YtdopmkiogmejaaaDoor
