/- What decode's Chars and Right do, by what read does: walks. -/
import Derived.Test.YtdopmkiogmejaaaDoorByte
namespace Go.Proofs.YtdopmkiogmejaaaDoor
open Go.RowKit

theorem readF_size (zs : List Int) (h : zs ≠ []) : 1 ≤ (readF zs).2.1 ∧ (readF zs).2.1 ≤ zs.length := by
  have hl : 1 ≤ zs.length := List.length_pos_iff.2 h
  unfold readF
  dsimp only
  split
  · exact ⟨Nat.le_refl _, hl⟩
  · split
    · split
      · exact ⟨Nat.le_refl _, hl⟩
      · rename_i k1
        have k1 := (Decidable.not_not.1 k1).1
        split
        · exact ⟨by simp, k1⟩
        · split
          · exact ⟨by simp, k1⟩
          · rename_i k2
            have k2 := (Decidable.not_not.1 k2).1
            split
            · exact ⟨by simp, k2⟩
            · split
              · exact ⟨by simp, k2⟩
              · rename_i k3
                have k3 := (Decidable.not_not.1 k3).1
                exact ⟨by simp, k3⟩
    · exact ⟨Nat.le_refl _, hl⟩

/-- A character, with the stand-in for what is none. -/
def charF (zs : List Int) : Int := if (readF zs).2.2 = true then (readF zs).1 else 65533
def sizeF (zs : List Int) : Nat := (readF zs).2.1

/-- The characters of bytes from a place on, with fuel. -/
def charsN : Nat → List Int → Nat → List Int
  | 0, _, _ => []
  | f + 1, zs, at_ => if zs.length ≤ at_ then [] else
      (if charF (zs.drop at_) ≠ 65279 ∨ at_ ≠ 0 then [charF (zs.drop at_)] else []) ++ charsN f zs (at_ + sizeF (zs.drop at_))
def charsFrom (zs : List Int) (at_ : Nat) : List Int := charsN (zs.length - at_) zs at_
def charsF (zs : List Int) : List Int := charsFrom zs 0

theorem charsN_enough (zs : List Int) : ∀ (f at_ : Nat), zs.length - at_ ≤ f → charsN f zs at_ = charsN (zs.length - at_) zs at_
  | 0, at_, h => by rw [show zs.length - at_ = 0 by omega]
  | f + 1, at_, h => by
    by_cases hl : zs.length ≤ at_
    · rw [show zs.length - at_ = 0 by omega]; simp only [charsN]; rw [if_pos hl]
    · have hs := readF_size (zs.drop at_) (by simp; omega)
      obtain ⟨m, hm⟩ : ∃ m, zs.length - at_ = m + 1 := ⟨zs.length - at_ - 1, by omega⟩
      rw [hm, charsN, charsN, if_neg hl, if_neg hl]
      congr 1
      have hs' : 1 ≤ sizeF (zs.drop at_) := hs.1
      rw [charsN_enough zs f _ (by omega), charsN_enough zs m _ (by omega)]
theorem charsFrom_end (zs : List Int) (at_ : Nat) (h : zs.length ≤ at_) : charsFrom zs at_ = [] := by
  unfold charsFrom; rw [show zs.length - at_ = 0 by omega, charsN]
theorem charsFrom_step (zs : List Int) (at_ : Nat) (h : at_ < zs.length) :
    charsFrom zs at_ = (if charF (zs.drop at_) ≠ 65279 ∨ at_ ≠ 0 then [charF (zs.drop at_)] else []) ++ charsFrom zs (at_ + sizeF (zs.drop at_)) := by
  have hs : 1 ≤ sizeF (zs.drop at_) := (readF_size (zs.drop at_) (by simp; omega)).1
  unfold charsFrom
  obtain ⟨m, hm⟩ : ∃ m, zs.length - at_ = m + 1 := ⟨zs.length - at_ - 1, by omega⟩
  rw [hm, charsN, if_neg (by omega)]
  congr 1
  exact charsN_enough zs m _ (by omega)

/-- The int's list element facts. -/
theorem readF_char (zs : List Int) (hz : U8 zs) : -2147483648 ≤ (readF zs).1 ∧ (readF zs).1 ≤ 2147483647 := by
  have hz0 := hz.at 0
  have hb := charNext_bd
  have hi : ∀ c, -2147483648 ≤ c → c ≤ 2147483647 → -2147483648 ≤ c ∧ c ≤ 2147483647 := fun c h h' => ⟨h, h'⟩
  unfold readF
  dsimp only
  (repeat' split) <;> first | exact hb _ _ | (apply hi <;> dsimp only <;> omega)

/-- A slice that leads to none of the blocks below a number. -/
def Fresh (B : Nat) (a : Option Addr) : Prop := ∀ ad, a = some ad → B ≤ ad.block
theorem Fresh.of_owns {w : World} {base : Nat} {e : TypeId} {size n n' cap : Nat} {v : Value} {xs : List Value} {a : Option Addr} (h : w.ownsRow base e size v n xs) (hv : v = .slice a n' cap) : Fresh base a := by
  intro ad ha
  subst ha
  exact (h.lt ad.block (by rw [hv]; rfl)).1

theorem nil_of_owns {w : World} {base : Nat} {e : TypeId} {size n n' cap : Nat} {v : Value} {xs : List Value} {a : Option Addr} (h : w.ownsRow base e size v n xs) (hv : v = .slice a n' cap) : a = none → cap = 0 := by
  intro ha
  subst ha
  rcases h.2 with ⟨h1, _⟩ | ⟨g, cap', cur, h1, _⟩
  · rw [hv] at h1; injection h1
  · rw [hv] at h1; injection h1 with h2 _ _; cases h2

def CharsPost (zs : List Int) (w : World) (e : Ending) (w' : World) : Prop :=
  ∃ a cap, e = .returned (.slice a (charsF zs).length cap) ∧ Reads w' .i64 a cap (charsF zs) ∧ Below w.heap.size w w' ∧ Fresh w.heap.size a ∧ (a = none → cap = 0)

theorem typed_of_owns {w : World} {base : Nat} {e : TypeId} {size n n' cap : Nat} {v : Value} {xs : List Value} {a : Option Addr} (h : w.ownsRow base e size v n xs) (hv : v = .slice a n' cap) : ∀ ad, a = some ad → ∃ cur, w.heap[ad.block]? = some (.cells cur e (0, 0)) := by
  rintro ad rfl
  rcases h.2 with ⟨h1, _⟩ | ⟨g, c, cur, h1, _, hh, _⟩
  · rw [hv] at h1; cases h1
  · rw [hv] at h1; cases h1
    exact ⟨cur, hh⟩
/-- The same, with what the new block is made of. -/
def CharsPostT (zs : List Int) (w : World) (e : Ending) (w' : World) : Prop :=
  ∃ a cap, e = .returned (.slice a (charsF zs).length cap) ∧ Reads w' .i64 a cap (charsF zs) ∧ Below w.heap.size w w' ∧ Fresh w.heap.size a ∧ (a = none → cap = 0) ∧ ∀ ad, a = some ad → ∃ cur, w'.heap[ad.block]? = some (.cells cur 3 (0, 0))
theorem Tryd.info3 : (Tryd.prog.info? 3).map (fun i => (i.zero, i.size, i.bytes)) = some (some (.int .i64 0), 1, 8) := by kernel_rfl

set_option maxRecDepth 100000 in
set_option maxHeartbeats 1000000 in
theorem chars_someT (b off len cap : Nat) (zs : List Int) (w : World) (hlen : zs.length = len) (h1 : 1 ≤ len) (hl : len ≤ cap) (hcap : cap ≤ maxLen)
    (hat : At w .u8 b off zs) (hz : U8 zs) (hsm : len ≤ 1000000) :
    Calls Tryd.prog 13 #[.slice (some ⟨b, off, none⟩) len cap] w (CharsPostT zs w) := by
  obtain ⟨i0, hi, hz0, hz1, hz2⟩ := info_parts Tryd.info3
  unfold maxLen at hcap
  have H0 := Lib.hid hlen; clear hlen
  go_enter Tryd.func13, Tryd.ntmps13
  go_wp2_with (refine wpList_make_own _ rfl _ _ 34 rfl w.heap.size 3 i0 (.int .i64 0) 1 Tryd.underlying34 hi hz0 hz1 .i64 .i64 _ len rfl rfl rfl (by rw [hz2]; omega) (by unfold maxLen; omega) (Nat.le_refl _) ?_; intro w1 hown1 hgrow1)
  go_loopw [3, 4] (fun v i wr => ∃ (k : Nat) (acc : List Int), k ≤ len ∧ acc.length ≤ k ∧ i = .int .i64 k ∧ wr.ownsRow w.heap.size 3 1 v acc.length (acc.map (Value.int .i64)) ∧ charsF zs = acc ++ charsFrom zs k ∧ Below w.heap.size w wr)
    (fun _ i _ => len - (intOf i).toNat)
  case atStart => exact ⟨0, [], by omega, by simp, rfl, hown1, rfl, Below.of_grown hgrow1 (Nat.le_refl _) (by rintro _ ⟨⟩)⟩
  case round =>
    obtain ⟨k, acc, hk, hacc, rfl, hown, heq, hbl⟩ := hrel
    by_cases hlt : k < len
    · have hst := charsFrom_step zs k (by rw [H0.out]; omega)
      have HS := Lib.hid hst; clear hst
      have HE := Lib.hid heq; clear heq
      have hat' := (hat.later hbl hat.1).drop k
      have hn := readF_size (zs.drop k) (by intro h; have := congrArg List.length h; rw [List.length_drop, H0.out] at this; simp at this; omega)
      have hcb := readF_char (zs.drop k) (hz.drop k)
      rw [List.length_drop, H0.out] at hn
      have HC : Hid (charF (zs.drop k) = if (readF (zs.drop k)).2.2 = true then (readF (zs.drop k)).1 else 65533) := Lib.hid rfl
      have HN : Hid (sizeF (zs.drop k) = (readF (zs.drop k)).2.1) := Lib.hid rfl
      rcases hrd : readF (zs.drop k) with ⟨c, n, o⟩
      rw [hrd] at hn hcb HC HN
      have HR := Lib.hid hrd; clear hrd
      obtain ⟨hn1, hn2⟩ := hn
      obtain ⟨hc1, hc2⟩ := hcb
      dsimp only at hn1 hn2 hc1 hc2 HC HN
      go_wp2_with fail
      refine (read_any b (off + k) (len - k) (cap - k) (zs.drop k) wr (by rw [List.length_drop, H0.out]) (by omega) (by omega) (by unfold maxLen; omega) hat' (hz.drop k)).mono ?_
      rintro e w2 ⟨he, hb2⟩
      rw [HR.out] at he
      subst he
      have hown2 := owns_later hown hb2
      have hbl2 := hbl.trans (hb2.mono hbl.size)
      clear hown hb2 hat'
      cases o
      case false =>
        dsimp only
        go_wp2_with (at_builtin; refine wpList_append_own _ rfl _ _ 34 rfl w.heap.size 3 i0 (.int .i64 0) 1 8 Tryd.underlying34 hi hz0 hz1 hz2 rfl (by decide) _ _ _ rfl (hown2.alloc _) ⟨w2.heap.size, 0, none⟩ 1 1 [.int .i64 65533] rfl rfl (cell_one_new _ _ _) (fun x hx => by simp at hx; subst hx; rfl) (by unfold maxLen; omega) (by omega) (by have := hbl2.size; simp; omega) ?_; intro v' w3 hown3 hgrow3 _)
        have hown4 := owns_snoc hown3
        have hbl4 : Below w.heap.size w w3 := hbl2.trans (Below.of_grown (grown_trans (World.grownBy_alloc w2 _ _) hgrow3) hbl2.size (fun j hj => (hown2.lt j hj).1))
        go_roundw
        case rel => exact ⟨k + n, acc ++ [65533], by omega, by simp; omega, by go_num, hown4, by rw [HE.out, HS.out, HN.out, HC.out]; simp , hbl4⟩
        case measure => simp [intOf]; omega

      case true =>
        dsimp only
        by_cases hm : c = 65279
        · subst hm
          by_cases hk0 : k = 0
          · subst hk0
            go_wp2
            go_roundw
            case rel => exact ⟨0 + n, acc, by omega, by omega, by go_num, hown2, by rw [HE.out, HS.out, HN.out, HC.out]; simp, hbl2⟩
            case measure => simp [intOf]; omega
          · have hk1 : ((k : Int) != 0) = true := by rw [bne_iff_ne]; omega
            go_wp2_with (at_builtin; refine wpList_append_own _ rfl _ _ 34 rfl w.heap.size 3 i0 (.int .i64 0) 1 8 Tryd.underlying34 hi hz0 hz1 hz2 rfl (by decide) _ _ _ rfl (hown2.alloc _) ⟨w2.heap.size, 0, none⟩ 1 1 [.int .i64 65279] rfl rfl (cell_one_new _ _ _) (fun x hx => by simp at hx; subst hx; rfl) (by unfold maxLen; omega) (by omega) (by have := hbl2.size; simp; omega) ?_; intro v' w3 hown3 hgrow3 _)
            have hown4 := owns_snoc hown3
            have hbl4 : Below w.heap.size w w3 := hbl2.trans (Below.of_grown (grown_trans (World.grownBy_alloc w2 _ _) hgrow3) hbl2.size (fun j hj => (hown2.lt j hj).1))
            go_roundw
            case rel => exact ⟨k + n, acc ++ [65279], by omega, by simp; omega, by go_num, hown4, by rw [HE.out, HS.out, HN.out, HC.out]; simp [hk0], hbl4⟩
            case measure => simp [intOf]; omega

        · have hm1 : (c != 65279) = true := by rw [bne_iff_ne]; exact hm
          go_wp2_with (at_builtin; refine wpList_append_own _ rfl _ _ 34 rfl w.heap.size 3 i0 (.int .i64 0) 1 8 Tryd.underlying34 hi hz0 hz1 hz2 rfl (by decide) _ _ _ rfl (hown2.alloc _) ⟨w2.heap.size, 0, none⟩ 1 1 [.int .i64 c] rfl rfl (cell_one_new _ _ _) (fun x hx => by simp at hx; subst hx; rfl) (by unfold maxLen; omega) (by omega) (by have := hbl2.size; simp; omega) ?_; intro v' w3 hown3 hgrow3 _)
          have hown4 := owns_snoc hown3
          have hbl4 : Below w.heap.size w w3 := hbl2.trans (Below.of_grown (grown_trans (World.grownBy_alloc w2 _ _) hgrow3) hbl2.size (fun j hj => (hown2.lt j hj).1))
          go_roundw
          case rel => exact ⟨k + n, acc ++ [c], by omega, by simp; omega, by go_num, hown4, by rw [HE.out, HS.out, HN.out, HC.out]; simp [hm], hbl4⟩
          case measure => simp [intOf]; omega

    · have hkl : k = len := by omega
      go_wp2
      go_ret
      obtain ⟨a, cp, hv, hrd⟩ := Reads.of_owns hown
      have hend : charsF zs = acc := by rw [heq, charsFrom_end zs k (by rw [H0.out]; omega), List.append_nil]
      have hfr := Fresh.of_owns hown hv
      have hnl := nil_of_owns hown hv
      have hty := typed_of_owns hown hv
      rw [← hend] at hv hrd
      exact ⟨a, cp, by rw [← hv]; rfl, hrd, hbl, hfr, hnl, hty⟩

set_option maxRecDepth 100000 in
set_option maxHeartbeats 400000 in
theorem chars_noneT (a : Option Addr) (cap : Nat) (w : World) : Calls Tryd.prog 13 #[.slice a 0 cap] w (CharsPostT [] w) := by
  obtain ⟨i0, hi, hz0, hz1, hz2⟩ := info_parts Tryd.info3
  go_enter Tryd.func13, Tryd.ntmps13
  go_wp2_with (refine wpList_make_own _ rfl _ _ 34 rfl w.heap.size 3 i0 (.int .i64 0) 1 Tryd.underlying34 hi hz0 hz1 .i64 .i64 _ 0 rfl rfl rfl (by rw [hz2]; omega) (by unfold maxLen; omega) (Nat.le_refl _) ?_; intro w1 hown1 hgrow1)
  refine wp_loop_rounds 1 ?_; rw [rounds_succ]
  go_wp2
  go_ret
  obtain ⟨a, cp, hv, hrd⟩ := Reads.of_owns (zs := []) hown1
  exact ⟨a, cp, by rw [show charsF [] = [] from rfl, ← hv]; rfl, hrd, Below.of_grown hgrow1 (Nat.le_refl _) (by rintro _ ⟨⟩), Fresh.of_owns hown1 hv, nil_of_owns hown1 hv, typed_of_owns hown1 hv⟩

theorem chars_anyT (a : Option Addr) (cap : Nat) (zs : List Int) (w : World) (hr : Reads w .u8 a cap zs) (hz : U8 zs) (hsm : zs.length ≤ 1000000) :
    Calls Tryd.prog 13 #[.slice a zs.length cap] w (CharsPostT zs w) := by
  obtain ⟨h1, h2, h3⟩ := hr
  rcases h3 with rfl | ⟨b, off, rfl, hat⟩
  · exact chars_noneT a cap w
  · by_cases h0 : zs = []
    · subst h0; exact chars_noneT _ cap w
    · exact chars_someT b off zs.length cap zs w rfl (List.length_pos_iff.2 h0) h1 h2 hat hz hsm
/-- What Chars does with any bytes. -/
theorem chars_any (a : Option Addr) (cap : Nat) (zs : List Int) (w : World) (hr : Reads w .u8 a cap zs) (hz : U8 zs) (hsm : zs.length ≤ 1000000) :
    Calls Tryd.prog 13 #[.slice a zs.length cap] w (CharsPost zs w) :=
  (chars_anyT a cap zs w hr hz hsm).mono fun _ _ ⟨a, c, h1, h2, h3, h4, h5, _⟩ => ⟨a, c, h1, h2, h3, h4, h5⟩
end Go.Proofs.YtdopmkiogmejaaaDoor
