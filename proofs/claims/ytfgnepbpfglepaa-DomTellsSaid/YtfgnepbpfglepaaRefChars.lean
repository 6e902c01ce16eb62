/- The document's answer on bytes' characters, and on whether they are right ones: walks. -/
import Derived.Test.YtfgnepbpfglepaaPure
import Derived.Test.YtfgnepbpfglepaaRight
namespace Go.Proofs.Ytfgnepbpfglepaa
open Go.RowKit

theorem first_call (b off len cap p : Nat) (zs : List Int) (w : World) (hlen : zs.length = len) (hp : p < len) (hl : len ≤ cap) (hsm : len ≤ 1000000) (hat : At w .u8 b off zs) (hz : U8 zs) :
    Calls Try.prog 88 #[.slice (some ⟨b, off, none⟩) len cap, .int .i64 p] w fun e w' =>
      e = .returned (.tuple #[.int .i64 (charF (zs.drop p)), .int .i64 (sizeF (zs.drop p))]) ∧ Below w.heap.size w w' :=
  (first_some b off len cap p zs w hlen hp hl hsm hat hz).mono fun e w' ⟨c, n, he, hs, hb⟩ => by
    obtain ⟨h1, h2, _⟩ := first_eq (zs.drop p) (hz.drop p) (by rw [List.length_drop]; omega) hs
    rw [← h1, ← h2]; exact ⟨he, hb⟩

theorem charF_bd (ys : List Int) (hz : U8 ys) : -2147483648 ≤ charF ys ∧ charF ys ≤ 2147483647 := by
  unfold charF; split
  · exact readF_char ys hz
  · omega

theorem rightFrom_first (zs : List Int) (k : Nat) (h : k < zs.length) (hz : U8 zs) :
    (readF (zs.drop k)).2.2 = wholeF ((zs.drop k).take (sizeF (zs.drop k))) ∧ ((readF (zs.drop k)).2.2 = true → (readF (zs.drop k)).1 = charF (zs.drop k)) := by
  have hl : 1 ≤ (zs.drop k).length := by rw [List.length_drop]; omega
  obtain ⟨g1, g4, gl, g⟩ := read_spec (zs.drop k) (hz.drop k) hl
  refine ⟨?_, fun ho => by unfold charF; rw [if_pos ho]⟩
  unfold sizeF
  rcases g with ⟨go, gw, gc⟩ | ⟨go, gc, g3, gw, gb, gm⟩
  · rw [go, gw]
  · rw [go, gw _ g1 g4 gl]

/-- A nought is told just where a byte is one. -/
theorem charF_zero (ys : List Int) : ys[0]?.getD 0 = 0 → charF ys = 0 ∧ (readF ys).2.2 = true := by
  intro h
  have e : readF ys = (0, 1, true) := by unfold readF; dsimp only; rw [h, if_pos (by omega)]
  unfold charF; rw [e]; simp

set_option maxRecDepth 100000 in
set_option maxHeartbeats 1000000 in
theorem good_some (b off len cap : Nat) (zs : List Int) (w : World) (hlen : zs.length = len) (h1 : 1 ≤ len) (hl : len ≤ cap) (hcap : cap ≤ maxLen)
    (hat : At w .u8 b off zs) (hz : U8 zs) (hsm : len ≤ 1000000) :
    Calls Try.prog 71 #[.slice (some ⟨b, off, none⟩) len cap] w (BoolPost (rightF zs) w) := by
  unfold maxLen at hcap
  have H0 := Lib.hid hlen; clear hlen
  go_enter Try.func71, Try.ntmps71
  go_wp2
  go_loopw [3] (fun i wr => ∃ k : Nat, k ≤ len ∧ i = .int .i64 k ∧ rightF zs = rightFrom zs k ∧ Below w.heap.size w wr) (fun i _ => len - (intOf i).toNat)
  case atStart => exact ⟨0, by omega, rfl, rfl, Below.refl _ _⟩
  case round =>
    obtain ⟨k, hk, rfl, heq, hbl⟩ := hrel
    have HE := Lib.hid heq; clear heq
    by_cases hlt : k < len
    · have hkz : k < zs.length := by rw [H0.out]; exact hlt
      have HS := Lib.hid (rightFrom_step zs k hkz)
      have HR := Lib.hid (rightFrom_first zs k hkz hz)
      have hl1 : 1 ≤ (zs.drop k).length := by rw [List.length_drop]; omega
      have HZ := Lib.hid (charF_zero (zs.drop k))
      have hn := (read_spec (zs.drop k) (hz.drop k) hl1)
      have hn1 : 1 ≤ sizeF (zs.drop k) ∧ sizeF (zs.drop k) ≤ 4 ∧ sizeF (zs.drop k) ≤ len - k := ⟨hn.1, hn.2.1, by have := hn.2.2.1; rw [List.length_drop, H0.out] at this; exact this⟩
      have hcb := charF_bd (zs.drop k) (hz.drop k)
      have hat' := (hat.later hbl hat.1)
      have hc0 := hat'.2 k hkz
      have hz0 := hz.at k
      have HD : Hid ((zs.drop k)[0]?.getD 0 = zs[k]?.getD 0) := Lib.hid (by rw [List.getElem?_drop]; rfl)
      clear hn hl1 hkz
      generalize hc : charF (zs.drop k) = c at *
      generalize hn' : sizeF (zs.drop k) = n at *
      have HC := Lib.hid hc; clear hc
      have HN := Lib.hid hn'; clear hn'
      obtain ⟨hn1, hn4, hn2⟩ := hn1
      obtain ⟨hc1, hc2⟩ := hcb
      go_wp2_with fail
      refine (first_call b off len cap k zs wr H0.out hlt hl hsm hat' hz).mono ?_
      rintro e w2 ⟨he, hb2⟩
      rw [HC.out, HN.out] at he
      subst he
      have hbl2 := hbl.trans (hb2.mono hbl.size)
      have hat2 := hat.later hbl2 hat.1
      have hc2' := (hb2.cell (p := ⟨b, off + k, none⟩) hat'.1).trans hc0
      clear hb2
      by_cases hb0 : zs[k]?.getD 0 = 0
      · have hf := HZ.out (HD.out.trans hb0)
        have HF : Hid (rightF zs = false) := Lib.hid (by rw [HE.out, HS.out, if_neg (by rw [HR.out.2 hf.2]; rintro ⟨_, h⟩; exact h hf.1)])
        rw [hb0] at hc2'
        clear hf hb0 hc0 hz0
        go_wp2
        go_ret
        exact ⟨ret_bool HF.out.symm, hbl2⟩
      · have hb1 : (zs[k]?.getD 0 == 0) = false := by rw [beq_eq_false_iff_ne]; exact hb0
        clear hb0 hc0
        generalize zs[k]?.getD 0 = z at hc2' hb1 hz0
        go_wp2_with fail
        refine (whole_some b (off + k) n (cap - k) ((zs.drop k).take n) w2 (by rw [List.length_take, List.length_drop, H0.out]; omega) hn1 hn4 ((hat2.drop k).take n) ((hz.drop k).take n)).mono ?_
        rintro e w3 ⟨rfl, hb3⟩
        have hbl3 := hbl2.trans (hb3.mono hbl2.size)
        have HW : Hid ((readF (zs.drop k)).2.2 = wholeF ((zs.drop k).take n)) := Lib.hid HR.out.1
        generalize hw : wholeF ((zs.drop k).take n) = o at *
        have HO := Lib.hid hw; clear hw
        cases o
        case false =>
          have HF : Hid (rightF zs = false) := Lib.hid (by rw [HE.out, HS.out, if_neg (by rw [HW.out]; simp)])
          go_wp2
          go_ret
          exact ⟨ret_bool HF.out.symm, hbl3⟩
        case true =>
          have HI : Hid ((readF (zs.drop k)).1 = c) := Lib.hid (HR.out.2 HW.out)
          by_cases hcz : c = 0
          · subst hcz
            have HF : Hid (rightF zs = false) := Lib.hid (by rw [HE.out, HS.out, if_neg (by rw [HI.out]; simp)])
            go_wp2
            go_ret
            exact ⟨ret_bool HF.out.symm, hbl3⟩
          · have hcz' : (c == 0) = false := by rw [beq_eq_false_iff_ne]; exact hcz
            have HF : Hid (rightF zs = rightFrom zs (k + n)) := Lib.hid (by rw [HE.out, HS.out, if_pos ⟨HW.out, by rw [HI.out]; exact hcz⟩])
            clear hcz
            go_wp2
            go_roundw
            case rel => exact ⟨k + n, by omega, by go_num, HF.out, hbl3⟩
            case measure => simp [intOf]; omega
    · have hkl : k = len := by omega
      go_wp2
      go_ret
      exact ⟨ret_bool (by rw [HE.out, rightFrom_end zs k (by rw [H0.out]; omega)]), hbl⟩

theorem good_none (a : Option Addr) (cap : Nat) (w : World) : Calls Try.prog 71 #[.slice a 0 cap] w (BoolPost (rightF []) w) := by
  go_enter Try.func71, Try.ntmps71
  go_wp2
  refine wp_loop_rounds 1 ?_; rw [rounds_succ]
  go_wp2
  go_ret
  exact ⟨rfl, Below.refl _ _⟩

/-- The document's answer on whether any bytes are right ones. -/
theorem good_any (a : Option Addr) (cap : Nat) (zs : List Int) (w : World) (hr : Reads w .u8 a cap zs) (hz : U8 zs) (hsm : zs.length ≤ 1000000) :
    Calls Try.prog 71 #[.slice a zs.length cap] w (BoolPost (rightF zs) w) := by
  obtain ⟨h1, h2, h3⟩ := hr
  rcases h3 with rfl | ⟨b, off, rfl, hat⟩
  · exact good_none a cap w
  · by_cases h0 : zs = []
    · subst h0; exact good_none _ cap w
    · exact good_some b off zs.length cap zs w rfl (List.length_pos_iff.2 h0) h1 h2 hat hz hsm
end Go.Proofs.Ytfgnepbpfglepaa
