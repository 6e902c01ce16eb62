/- The document's answer on whether bytes are right ones, of any number of bytes: walks. -/
import Derived.Test.YtfgnepbpfglepaaRefChars
import Derived.Test.YtfgnepbpfglepaaDn1
namespace Go.Proofs.Ytfgnepbpfglepaa
open Go.RowKit
set_option linter.unusedVariables false

set_option maxRecDepth 100000 in
set_option maxHeartbeats 1000000 in
theorem first_someB (b off len cap p : Nat) (zs : List Int) (w : World) (hlen : zs.length = len) (hp : p < len) (hl : len ≤ cap) (hsm : len ≤ 140737488355328) (hat : At w .u8 b off zs) (hz : U8 zs) :
    Calls Try.prog 88 #[.slice (some ⟨b, off, none⟩) len cap, .int .i64 p] w (FirstPost (zs.drop p) w) := by
  have HL : Hid ((zs.drop p).length = len - p) := Lib.hid (by rw [List.length_drop, hlen])
  clear hlen
  have hatd := hat.drop p
  have hzd := hz.drop p
  generalize zs.drop p = ys at *
  clear hat hz
  go_enter Try.func88, Try.ntmps88
  go_wp2
  go_loopw [6] (fun i wr => ∃ s : Nat, 1 ≤ s ∧ s ≤ 5 ∧ i = .int .i64 s ∧ (∀ t, 1 ≤ t → t < s → t ≤ ys.length → wholeF (ys.take t) = false) ∧ (5 ≤ s ∨ s ≤ len - p + 1) ∧ Below w.heap.size w wr) (fun i _ => 5 - (intOf i).toNat)
  case atStart => exact ⟨1, by omega, by omega, rfl, fun t h h' => by omega, by omega, Below.refl _ _⟩
  case round =>
    obtain ⟨s, hs1, hs2, rfl, hno, hs3, hbl⟩ := hrel
    have HN := Lib.hid hno; clear hno
    have hat1 := hatd.later hbl hatd.1
    by_cases hlt : s ≤ 4 ∧ p + s ≤ len
    · obtain ⟨hlt1, hlt2⟩ := hlt
      go_wp2_with fail
      refine (whole_some b (off + p) s (cap - p) (ys.take s) wr (by rw [List.length_take, HL.out]; omega) hs1 hlt1 (hat1.take s) (hzd.take s)).mono ?_
      rintro e w1 ⟨rfl, hb1⟩
      have hbl1 := hbl.trans (hb1.mono hbl.size)
      have hat2 := hatd.later hbl1 hatd.1
      by_cases hw1 : wholeF (ys.take s) = true
      · have HW := Lib.hid hw1
        rw [hw1]
        clear hw1
        go_wp2_with fail
        refine (told_some b (off + p) s (cap - p) (ys.take s) w1 (by rw [List.length_take, HL.out]; omega) hs1 hlt1 (hat2.take s) (hzd.take s)).mono ?_
        rintro e w2 ⟨rfl, hb2⟩
        have hbl2 := hbl1.trans (hb2.mono hbl1.size)
        go_wp2
        go_ret2
        exact ⟨_, s, rfl, .inl ⟨hs1, hlt1, by rw [HL.out]; omega, HW.out, rfl⟩, hbl2⟩
      · have hw1' : wholeF (ys.take s) = false := by simpa using hw1
        have HW := Lib.hid hw1'
        rw [hw1']
        clear hw1 hw1'
        go_wp2
        go_roundw
        case rel =>
          refine ⟨s + 1, by omega, by omega, by go_num, fun t h1 h2 h3 => ?_, by omega, hbl1⟩
          rcases Nat.lt_or_ge t s with h | h
          · exact HN.out t h1 h h3
          · rw [show t = s from by omega]; exact HW.out
        case measure => simp [intOf]; omega
    · have hall : ∀ t, 1 ≤ t → t ≤ 4 → t ≤ ys.length → wholeF (ys.take t) = false := fun t h1 h2 h3 => HN.out t h1 (by rw [HL.out] at h3; omega) h3
      have HA := Lib.hid hall; clear hall
      have hor : 4 < (s : Int) ∨ ((s : Int) ≤ 4 ∧ (len : Int) < (p : Int) + (s : Int)) := by omega
      rcases hor with hor | ⟨hor1, hor2⟩
      all_goals
        go_wp2
        go_loopw [7] (fun i wr => ∃ s : Nat, 1 ≤ s ∧ s ≤ 3 ∧ i = .int .i64 s ∧ (∀ t, s < t → t ≤ 3 → t ≤ ys.length → beginsF (ys.take t) = false) ∧ Below w.heap.size w wr) (fun i _ => (intOf i).toNat)
        case atStart => exact ⟨3, by omega, by omega, rfl, fun t h h' => by omega, hbl⟩
        case round =>
          obtain ⟨s2, hs4, hs5, rfl, hno2, hbl2⟩ := hrel
          have HN2 := Lib.hid hno2; clear hno2
          have hat3 := hatd.later hbl2 hatd.1
          by_cases hgt : 1 < s2
          · have hgt' : (1 : Int) < (s2 : Int) := by omega
            by_cases hle : p + s2 ≤ len
            · have hle' : (p : Int) + (s2 : Int) ≤ (len : Int) := by omega
              go_wp2_with fail
              refine (begins_some b (off + p) s2 (cap - p) (ys.take s2) _ (by rw [List.length_take, HL.out]; omega) hs4 (by omega) (hat3.take s2) (hzd.take s2)).mono ?_
              rintro e w3 ⟨rfl, hb3⟩
              have hbl3 := hbl2.trans (hb3.mono hbl2.size)
              by_cases hw2 : beginsF (ys.take s2) = true
              · have HW := Lib.hid hw2
                rw [hw2]
                clear hw2
                go_wp2
                go_ret2
                exact ⟨_, s2, rfl, .inr ⟨HA.out, rfl, hs4, hs5, .inr ⟨by rw [HL.out]; omega, HW.out⟩, fun t h1 h2 h3 => HN2.out t h1 h2 h3⟩, hbl3⟩
              · have hw2' : beginsF (ys.take s2) = false := by simpa using hw2
                have HW := Lib.hid hw2'
                rw [hw2']
                clear hw2 hw2'
                go_wp2
                go_roundw
                case rel =>
                  refine ⟨s2 - 1, by omega, by omega, by go_num, fun t h1 h2 h3 => ?_, hbl3⟩
                  rcases Nat.lt_or_ge s2 t with h | h
                  · exact HN2.out t h h2 h3
                  · rw [show t = s2 from by omega]; exact HW.out
                case measure => simp [intOf]; omega
            · have hle' : decide ((p : Int) + (s2 : Int) ≤ (len : Int)) = false := by rw [decide_eq_false_iff_not]; omega
              go_wp2
              go_roundw
              case rel =>
                refine ⟨s2 - 1, by omega, by omega, by go_num, fun t h1 h2 h3 => ?_, hbl2⟩
                rcases Nat.lt_or_ge s2 t with h | h
                · exact HN2.out t h h2 h3
                · rw [HL.out] at h3; omega
              case measure => simp [intOf]; omega
          · have : s2 = 1 := by omega
            subst this
            go_wp2
            go_ret2
            exact ⟨_, 1, rfl, .inr ⟨HA.out, rfl, by omega, by omega, .inl rfl, fun t h1 h2 h3 => HN2.out t h1 h2 h3⟩, hbl2⟩
theorem first_callB (b off len cap p : Nat) (zs : List Int) (w : World) (hlen : zs.length = len) (hp : p < len) (hl : len ≤ cap) (hsm : len ≤ 140737488355328) (hat : At w .u8 b off zs) (hz : U8 zs) :
    Calls Try.prog 88 #[.slice (some ⟨b, off, none⟩) len cap, .int .i64 p] w fun e w' =>
      e = .returned (.tuple #[.int .i64 (charF (zs.drop p)), .int .i64 (sizeF (zs.drop p))]) ∧ Below w.heap.size w w' :=
  (first_someB b off len cap p zs w hlen hp hl hsm hat hz).mono fun e w' ⟨c, n, he, hs, hb⟩ => by
    obtain ⟨h1, h2, _⟩ := first_eq (zs.drop p) (hz.drop p) (by rw [List.length_drop]; omega) hs
    rw [← h1, ← h2]; exact ⟨he, hb⟩

set_option maxRecDepth 100000 in
set_option maxHeartbeats 1000000 in
theorem good_someB (b off len cap : Nat) (zs : List Int) (w : World) (hlen : zs.length = len) (h1 : 1 ≤ len) (hl : len ≤ cap) (hcap : cap ≤ maxLen)
    (hat : At w .u8 b off zs) (hz : U8 zs) (hsm : len ≤ 140737488355328) :
    Calls Try.prog 71 #[.slice (some ⟨b, off, none⟩) len cap] w (BoolPost (rightF zs) w) := by
  unfold maxLen at hcap
  have H0 := Lib.hid hlen; clear hlen
  go_enter Try.func71, Try.ntmps71
  go_wp2
  go_loopw [3] (fun i wr => ∃ k : Nat, k ≤ len ∧ i = .int .i64 k ∧ rightF zs = rightFrom zs k ∧ Below w.heap.size w wr) (fun i _ => len - (intOf i).toNat)
  case atStart => exact ⟨0, by omega, rfl, rfl, Below.refl _ _⟩
  case round =>
    obtain ⟨k, hk, rfl, heq, hbl⟩ := hrel
    have HE := Lib.hid heq; clear heq
    by_cases hlt : k < len
    · have hkz : k < zs.length := by rw [H0.out]; exact hlt
      have HS := Lib.hid (rightFrom_step zs k hkz)
      have HR := Lib.hid (rightFrom_first zs k hkz hz)
      have hl1 : 1 ≤ (zs.drop k).length := by rw [List.length_drop]; omega
      have HZ := Lib.hid (charF_zero (zs.drop k))
      have hn := (read_spec (zs.drop k) (hz.drop k) hl1)
      have hn1 : 1 ≤ sizeF (zs.drop k) ∧ sizeF (zs.drop k) ≤ 4 ∧ sizeF (zs.drop k) ≤ len - k := ⟨hn.1, hn.2.1, by have := hn.2.2.1; rw [List.length_drop, H0.out] at this; exact this⟩
      have hcb := charF_bd (zs.drop k) (hz.drop k)
      have hat' := (hat.later hbl hat.1)
      have hc0 := hat'.2 k hkz
      have hz0 := hz.at k
      have HD : Hid ((zs.drop k)[0]?.getD 0 = zs[k]?.getD 0) := Lib.hid (by rw [List.getElem?_drop]; rfl)
      clear hn hl1 hkz
      generalize hc : charF (zs.drop k) = c at *
      generalize hn' : sizeF (zs.drop k) = n at *
      have HC := Lib.hid hc; clear hc
      have HN := Lib.hid hn'; clear hn'
      obtain ⟨hn1, hn4, hn2⟩ := hn1
      obtain ⟨hc1, hc2⟩ := hcb
      go_wp2_with fail
      refine (first_callB b off len cap k zs wr H0.out hlt hl hsm hat' hz).mono ?_
      rintro e w2 ⟨he, hb2⟩
      rw [HC.out, HN.out] at he
      subst he
      have hbl2 := hbl.trans (hb2.mono hbl.size)
      have hat2 := hat.later hbl2 hat.1
      have hc2' := (hb2.cell (p := ⟨b, off + k, none⟩) hat'.1).trans hc0
      clear hb2
      by_cases hb0 : zs[k]?.getD 0 = 0
      · have hf := HZ.out (HD.out.trans hb0)
        have HF : Hid (rightF zs = false) := Lib.hid (by rw [HE.out, HS.out, if_neg (by rw [HR.out.2 hf.2]; rintro ⟨_, h⟩; exact h hf.1)])
        rw [hb0] at hc2'
        clear hf hb0 hc0 hz0
        go_wp2
        go_ret
        exact ⟨ret_bool HF.out.symm, hbl2⟩
      · have hb1 : (zs[k]?.getD 0 == 0) = false := by rw [beq_eq_false_iff_ne]; exact hb0
        clear hb0 hc0
        generalize zs[k]?.getD 0 = z at hc2' hb1 hz0
        go_wp2_with fail
        refine (whole_some b (off + k) n (cap - k) ((zs.drop k).take n) w2 (by rw [List.length_take, List.length_drop, H0.out]; omega) hn1 hn4 ((hat2.drop k).take n) ((hz.drop k).take n)).mono ?_
        rintro e w3 ⟨rfl, hb3⟩
        have hbl3 := hbl2.trans (hb3.mono hbl2.size)
        have HW : Hid ((readF (zs.drop k)).2.2 = wholeF ((zs.drop k).take n)) := Lib.hid HR.out.1
        generalize hw : wholeF ((zs.drop k).take n) = o at *
        have HO := Lib.hid hw; clear hw
        cases o
        case false =>
          have HF : Hid (rightF zs = false) := Lib.hid (by rw [HE.out, HS.out, if_neg (by rw [HW.out]; simp)])
          go_wp2
          go_ret
          exact ⟨ret_bool HF.out.symm, hbl3⟩
        case true =>
          have HI : Hid ((readF (zs.drop k)).1 = c) := Lib.hid (HR.out.2 HW.out)
          by_cases hcz : c = 0
          · subst hcz
            have HF : Hid (rightF zs = false) := Lib.hid (by rw [HE.out, HS.out, if_neg (by rw [HI.out]; simp)])
            go_wp2
            go_ret
            exact ⟨ret_bool HF.out.symm, hbl3⟩
          · have hcz' : (c == 0) = false := by rw [beq_eq_false_iff_ne]; exact hcz
            have HF : Hid (rightF zs = rightFrom zs (k + n)) := Lib.hid (by rw [HE.out, HS.out, if_pos ⟨HW.out, by rw [HI.out]; exact hcz⟩])
            clear hcz
            go_wp2
            go_roundw
            case rel => exact ⟨k + n, by omega, by go_num, HF.out, hbl3⟩
            case measure => simp [intOf]; omega
    · have hkl : k = len := by omega
      go_wp2
      go_ret
      exact ⟨ret_bool (by rw [HE.out, rightFrom_end zs k (by rw [H0.out]; omega)]), hbl⟩

/-- The document's answer on whether any bytes are right ones. -/
theorem good_anyB (a : Option Addr) (cap : Nat) (zs : List Int) (w : World) (hr : Reads w .u8 a cap zs) (hz : U8 zs) (hsm : zs.length ≤ 140737488355328) :
    Calls Try.prog 71 #[.slice a zs.length cap] w (BoolPost (rightF zs) w) := by
  obtain ⟨h1, h2, h3⟩ := hr
  rcases h3 with rfl | ⟨b, off, rfl, hat⟩
  · exact good_none a cap w
  · by_cases h0 : zs = []
    · subst h0; exact good_none _ cap w
    · exact good_someB b off zs.length cap zs w rfl (List.length_pos_iff.2 h0) h1 h2 hat hz hsm

theorem conv_readsB (s : ByteArray) (w : World) (hs : s.size ≤ 140737488351232) : ∃ cap w', (convert 9 114 (.string s)).run Try.prog w = .ok (.slice (some ⟨w.heap.size, 0, none⟩) s.size cap) w' ∧ Below w.heap.size w w' ∧ Reads w' .u8 (some ⟨w.heap.size, 0, none⟩) cap (nmI s) := by
  have hl := nmI_len s
  have hh := heap_alloc_new w.drew (.cells (bytesRow s (grownCap w s.size 0 5)) 5 ((bytesRow s (grownCap w s.size 0 5)).size, (bytesRow s (grownCap w s.size 0 5)).size + 1))
  refine ⟨_, _, run_bytes_of_string w 9 114 5 s Try.underlying9 Try.underlying114 Try.underlying5, ((Below.refl _ w).drew).alloc (Nat.le_refl _) _, ⟨by rw [hl]; exact grownCap_ge _ _ _ _, grownCap_le_maxLen _ _ _ _ (by unfold maxLen; omega), .inr ⟨_, _, rfl, by simp, fun j hj => ?_⟩⟩⟩
  rw [hl] at hj
  rw [Nat.zero_add]
  have hjs : j < s.data.size := hj
  have hv : (bytesRow s (grownCap w s.size 0 5))[j]? = some (Value.int .u8 ((nmI s)[j]?.getD 0)) := by
    unfold bytesRow
    rw [Array.getElem?_append_left (by simpa using hjs), Array.getElem?_map, Array.getElem?_eq_getElem hjs]
    have : (nmI s)[j]? = some (((s.data[j]'hjs).toNat : Nat) : Int) := by
      unfold nmI
      rw [List.getElem?_map, Array.getElem?_toList, Array.getElem?_eq_getElem hjs]; rfl
    rw [this]; rfl
  show World.cell? _ ⟨w.drew.heap.size, j, none⟩ = _
  simp only [World.cell?, hh]
  simpa using hv
set_option maxRecDepth 100000 in
set_option maxHeartbeats 1000000 in
theorem rright_any (s : ByteArray) (w : World) (hs : s.size ≤ 140737488351232) : Calls Try.prog 44 #[.string s] w (Told (.bool (rightS s)) w) := by
  obtain ⟨cap, w1, hcv, hb1, hr⟩ := conv_readsB s w hs
  have hR := good_anyB _ cap (nmI s) w1 hr (nmI_u8 s) (by rw [nmI_len]; omega)
  rw [nmI_len] at hR
  unfold BoolPost at hR
  rw [show rightF (nmI s) = rightS s from rfl] at hR
  generalize rightS s = r at *
  clear hr
  go_enter Try.func44, Try.ntmps44
  go_wp2_with fail
  refine hR.mono ?_
  rintro e w2 ⟨rfl, hb2⟩
  go_wp2
  go_ret
  exact ⟨rfl, hb1.trans (hb2.mono hb1.size)⟩
end Go.Proofs.Ytfgnepbpfglepaa
