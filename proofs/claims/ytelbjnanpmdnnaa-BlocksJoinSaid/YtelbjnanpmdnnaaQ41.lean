/- Texts of mine in one: RefChars. -/
import Derived.Test.YtelbjnanpmdnnaaQ11
namespace Go.Proofs.Ytelbjnanpmdnnaa
section
open Go.RowKit
theorem first_call (b off len cap p : Nat) (zs : List Int) (w : World) (hlen : zs.length = len) (hp : p < len) (hl : len ≤ cap) (hsm : len ≤ 1000000) (hat : At w .u8 b off zs) (hz : U8 zs) :
    Calls Try.prog 34 #[.slice (some ⟨b, off, none⟩) len cap, .int .i64 p] w fun e w' =>
      e = .returned (.tuple #[.int .i64 (charF (zs.drop p)), .int .i64 (sizeF (zs.drop p))]) ∧ Below w.heap.size w w' :=
  (first_some b off len cap p zs w hlen hp hl hsm hat hz).mono fun e w' ⟨c, n, he, hs, hb⟩ => by
    obtain ⟨h1, h2, _⟩ := first_eq (zs.drop p) (hz.drop p) (by rw [List.length_drop]; omega) hs
    rw [← h1, ← h2]; exact ⟨he, hb⟩
theorem charF_bd (ys : List Int) (hz : U8 ys) : -2147483648 ≤ charF ys ∧ charF ys ≤ 2147483647 := by
  unfold charF; split
  · exact readF_char ys hz
  · omega
set_option maxRecDepth 100000 in
set_option maxHeartbeats 1000000 in
theorem refChars_some (b off len cap : Nat) (zs : List Int) (w : World) (hlen : zs.length = len) (h1 : 1 ≤ len) (hl : len ≤ cap) (hcap : cap ≤ maxLen)
    (hat : At w .u8 b off zs) (hz : U8 zs) (hsm : len ≤ 1000000) :
    Calls Try.prog 20 #[.slice (some ⟨b, off, none⟩) len cap] w (CharsPost zs w) := by
  obtain ⟨i0, hi, hz0, hz1, hz2⟩ := info_parts Try.info3
  unfold maxLen at hcap
  have H0 := Lib.hid hlen; clear hlen
  have own0 := World.ownsRow_made (base := w.heap.size) (e := 3) (size := 1) w #[] 0 (Nat.le_refl _) (by simp [maxLen]) (by simp)
  go_enter Try.func20, Try.ntmps20
  go_wp2
  go_loopw [3, 4] (fun v i wr => ∃ (k : Nat) (acc : List Int), k ≤ len ∧ acc.length ≤ k ∧ i = .int .i64 k ∧ wr.ownsRow w.heap.size 3 1 v acc.length (acc.map (Value.int .i64)) ∧ charsF zs = acc ++ charsFrom zs k ∧ Below w.heap.size w wr)
    (fun _ i _ => len - (intOf i).toNat)
  case atStart => exact ⟨0, [], by omega, by simp, rfl, own0, rfl, (Below.refl _ w).alloc (Nat.le_refl _) _⟩
  case round =>
    obtain ⟨k, acc, hk, hacc, rfl, hown, heq, hbl⟩ := hrel
    by_cases hlt : k < len
    · have hst := charsFrom_step zs k (by rw [H0.out]; omega)
      have HS := Lib.hid hst; clear hst
      have HE := Lib.hid heq; clear heq
      have hat' := (hat.later hbl hat.1)
      have hn := readF_size (zs.drop k) (by intro h; have := congrArg List.length h; rw [List.length_drop, H0.out] at this; simp at this; omega)
      have hcb := charF_bd (zs.drop k) (hz.drop k)
      rw [List.length_drop, H0.out] at hn
      obtain ⟨c, hc⟩ : ∃ c, charF (zs.drop k) = c := ⟨_, rfl⟩
      obtain ⟨n, hn'⟩ : ∃ n, sizeF (zs.drop k) = n := ⟨_, rfl⟩
      have hn2 : 1 ≤ n ∧ n ≤ len - k := by rw [← hn']; exact hn
      rw [hc] at hcb
      have HC := Lib.hid hc; clear hc
      have HN := Lib.hid hn'; clear hn'
      clear hn
      obtain ⟨hn1, hn2⟩ := hn2
      obtain ⟨hc1, hc2⟩ := hcb
      go_wp2_with fail
      refine (first_call b off len cap k zs wr H0.out hlt hl hsm hat' hz).mono ?_
      rintro e w2 ⟨he, hb2⟩
      rw [HC.out, HN.out] at he
      subst he
      have hown2 := owns_later hown hb2
      have hbl2 := hbl.trans (hb2.mono hbl.size)
      clear hown hb2 hat'
      by_cases hm : c = 65279
      · subst hm
        by_cases hk0 : k = 0
        · subst hk0
          go_wp2
          go_roundw
          case rel => exact ⟨0 + n, acc, by omega, by omega, by go_num, hown2, by rw [HE.out, HS.out, HN.out, HC.out]; simp, hbl2⟩
          case measure => simp [intOf]; omega
        · have hk1 : (0 : Int) < (k : Int) := by omega
          go_wp2_with (at_builtin; refine wpList_append_own _ rfl _ _ 43 rfl w.heap.size 3 i0 (.int .i64 0) 1 8 Try.underlying43 hi hz0 hz1 hz2 rfl (by decide) _ _ _ rfl (hown2.alloc _) ⟨w2.heap.size, 0, none⟩ 1 1 [.int .i64 65279] rfl rfl (cell_one_new _ _ _) (fun x hx => by simp at hx; subst hx; rfl) (by unfold maxLen; omega) (by omega) (by have := hbl2.size; simp; omega) ?_; intro v' w3 hown3 hgrow3 _)
          have hown4 := owns_snoc hown3
          have hbl4 : Below w.heap.size w w3 := hbl2.trans (Below.of_grown (grown_trans (World.grownBy_alloc w2 _ _) hgrow3) hbl2.size (fun j hj => (hown2.lt j hj).1))
          go_roundw
          case rel => exact ⟨k + n, acc ++ [65279], by omega, by simp; omega, by go_num, hown4, by rw [HE.out, HS.out, HN.out, HC.out]; simp [hk0], hbl4⟩
          case measure => simp [intOf]; omega
      · have hm1 : (c != 65279) = true := by rw [bne_iff_ne]; exact hm
        by_cases hk0 : k = 0
        · subst hk0
          go_wp2_with (at_builtin; refine wpList_append_own _ rfl _ _ 43 rfl w.heap.size 3 i0 (.int .i64 0) 1 8 Try.underlying43 hi hz0 hz1 hz2 rfl (by decide) _ _ _ rfl (hown2.alloc _) ⟨w2.heap.size, 0, none⟩ 1 1 [.int .i64 c] rfl rfl (cell_one_new _ _ _) (fun x hx => by simp at hx; subst hx; rfl) (by unfold maxLen; omega) (by omega) (by have := hbl2.size; simp; omega) ?_; intro v' w3 hown3 hgrow3 _)
          have hown4 := owns_snoc hown3
          have hbl4 : Below w.heap.size w w3 := hbl2.trans (Below.of_grown (grown_trans (World.grownBy_alloc w2 _ _) hgrow3) hbl2.size (fun j hj => (hown2.lt j hj).1))
          go_roundw
          case rel => exact ⟨0 + n, acc ++ [c], by omega, by simp; omega, by go_num, hown4, by rw [HE.out, HS.out, HN.out, HC.out]; simp [hm], hbl4⟩
          case measure => simp [intOf]; omega
        · have hk1 : (0 : Int) < (k : Int) := by omega
          go_wp2_with (at_builtin; refine wpList_append_own _ rfl _ _ 43 rfl w.heap.size 3 i0 (.int .i64 0) 1 8 Try.underlying43 hi hz0 hz1 hz2 rfl (by decide) _ _ _ rfl (hown2.alloc _) ⟨w2.heap.size, 0, none⟩ 1 1 [.int .i64 c] rfl rfl (cell_one_new _ _ _) (fun x hx => by simp at hx; subst hx; rfl) (by unfold maxLen; omega) (by omega) (by have := hbl2.size; simp; omega) ?_; intro v' w3 hown3 hgrow3 _)
          have hown4 := owns_snoc hown3
          have hbl4 : Below w.heap.size w w3 := hbl2.trans (Below.of_grown (grown_trans (World.grownBy_alloc w2 _ _) hgrow3) hbl2.size (fun j hj => (hown2.lt j hj).1))
          go_roundw
          case rel => exact ⟨k + n, acc ++ [c], by omega, by simp; omega, by go_num, hown4, by rw [HE.out, HS.out, HN.out, HC.out]; simp [hm], hbl4⟩
          case measure => simp [intOf]; omega
    · have hkl : k = len := by omega
      go_wp2
      go_ret
      obtain ⟨a, cp, hv, hrd⟩ := Reads.of_owns hown
      have hend : charsF zs = acc := by rw [heq, charsFrom_end zs k (by rw [H0.out]; omega), List.append_nil]
      have hfr := Fresh.of_owns hown hv
      have hnl := nil_of_owns hown hv
      rw [← hend] at hv hrd
      exact ⟨a, cp, by rw [← hv]; rfl, hrd, hbl, hfr, hnl⟩
set_option maxRecDepth 100000 in
set_option maxHeartbeats 400000 in
theorem refChars_none (a : Option Addr) (cap : Nat) (w : World) : Calls Try.prog 20 #[.slice a 0 cap] w (CharsPost [] w) := by
  go_enter Try.func20, Try.ntmps20
  go_wp2
  refine wp_loop_rounds 1 ?_; rw [rounds_succ]
  go_wp2
  go_ret
  exact ⟨_, 0, rfl, ⟨by simp [show charsF [] = [] from rfl], by simp [maxLen], .inl rfl⟩, (Below.refl _ w).alloc (Nat.le_refl _) _, by rintro ad ⟨⟩; exact Nat.le_refl _, by rintro ⟨⟩⟩
theorem refChars_any (a : Option Addr) (cap : Nat) (zs : List Int) (w : World) (hr : Reads w .u8 a cap zs) (hz : U8 zs) (hsm : zs.length ≤ 1000000) :
    Calls Try.prog 20 #[.slice a zs.length cap] w (CharsPost zs w) := by
  obtain ⟨h1, h2, h3⟩ := hr
  rcases h3 with rfl | ⟨b, off, rfl, hat⟩
  · exact refChars_none a cap w
  · by_cases h0 : zs = []
    · subst h0; exact refChars_none _ cap w
    · exact refChars_some b off zs.length cap zs w rfl (List.length_pos_iff.2 h0) h1 h2 hat hz hsm
end
end Go.Proofs.Ytelbjnanpmdnnaa
