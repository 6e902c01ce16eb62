/- The document's answer on a text's characters, and on its parts as texts: walks. -/
import Derived.Test.YtdopmkiogmejaaaDoorCh2
import Derived.Test.YtdopmkiogmejaaaDoorLw
namespace Go.Proofs.YtdopmkiogmejaaaDoor
open Go.RowKit
set_option linter.unusedVariables false

/-- What the conversion of a string to bytes lays. -/
theorem conv_strH (s : ByteArray) (w : World) : ∃ cap w' cs m, (convert 9 24 (.string s)).run Tryd.prog w = .ok (.slice (some ⟨w.heap.size, 0, none⟩) s.size cap) w' ∧ s.size ≤ cap ∧ Below w.heap.size w w' ∧
    w'.heap[w.heap.size]? = some (.cells cs 5 m) ∧ ∀ (j : Nat) (b : UInt8), (strB s)[j]? = some b → cs[j]? = some (.int .u8 b.toNat) := by
  have hh := heap_alloc_new w.drew (.cells (bytesRow s (grownCap w s.size 0 5)) 5 ((bytesRow s (grownCap w s.size 0 5)).size, (bytesRow s (grownCap w s.size 0 5)).size + 1))
  refine ⟨_, _, _, _, run_bytes_of_string w 9 24 5 s Tryd.underlying9 Tryd.underlying24 Tryd.underlying5, grownCap_ge _ _ _ _, ((Below.refl _ w).drew).alloc (Nat.le_refl _) _, hh, fun j b hb => ?_⟩
  have hj : j < (strB s).length := (List.getElem?_eq_some_iff.1 hb).1
  have hjs : j < s.data.size := by unfold strB at hj; simpa using hj
  unfold bytesRow
  rw [Array.getElem?_append_left (by simpa using hjs), Array.getElem?_map]
  have : s.data[j]? = some b := by rw [← hb]; unfold strB; simp
  rw [this]; rfl
theorem strI_B (s : ByteArray) : strI s = (strB s).map fun b => (b.toNat : Int) := rfl
theorem at_str {w : World} {P : Nat} {s : ByteArray} {cs : Array Value} {m : Nat × Nat} (hh : w.heap[P]? = some (.cells cs 5 m)) (hc : ∀ (j : Nat) (b : UInt8), (strB s)[j]? = some b → cs[j]? = some (.int .u8 b.toNat)) : At w .u8 P 0 (strI s) := by
  refine ⟨(Array.getElem?_eq_some_iff.1 hh).1, fun j hj => ?_⟩
  rw [strI_len, ← strB_len] at hj
  have hb : (strB s)[j]? = some (strB s)[j] := List.getElem?_eq_getElem hj
  have h1 := hc j _ hb
  rw [strI_B, List.getElem?_map, hb]
  simp only [World.cell?, hh, Nat.zero_add]
  exact h1
theorem first_callH (b off len cap p : Nat) (zs : List Int) (w : World) (hlen : zs.length = len) (hp : p < len) (hl : len ≤ cap) (hsm : len ≤ 1000000) (hat : At w .u8 b off zs) (hz : U8 zs) :
    Calls Tryd.prog 9 #[.slice (some ⟨b, off, none⟩) len cap, .int .i64 p] w fun e w' =>
      e = .returned (.tuple #[.int .i64 (charF (zs.drop p)), .int .i64 (sizeF (zs.drop p))]) ∧ Below w.heap.size w w' :=
  (first_some b off len cap p zs w hlen hp hl hsm hat hz).mono fun e w' ⟨c, n, he, hs, hb⟩ => by
    obtain ⟨h1, h2, _⟩ := first_eq (zs.drop p) (hz.drop p) (by rw [List.length_drop]; omega) hs
    rw [← h1, ← h2]; exact ⟨he, hb⟩
theorem owns_int_ne {w : World} {base P : Nat} {v : Value} {n : Nat} {xs : List Value} {cs : Array Value} {m : Nat × Nat} (h : w.ownsRow base 3 1 v n xs) (hp : w.heap[P]? = some (.cells cs 5 m)) : v.ownBlock ≠ some P := by
  intro e
  rcases h.2 with ⟨rfl, _⟩ | ⟨g, cap, cur, rfl, _, hg, _⟩
  · simp [Value.ownBlock] at e
  · simp [Value.ownBlock] at e
    subst e
    rw [hp] at hg
    cases hg

set_option maxRecDepth 100000 in
set_option maxHeartbeats 2000000 in
theorem rall_any (s : ByteArray) (w : World) (hs : s.size ≤ 100000) : Calls Tryd.prog 14 #[.string s] w fun e w' => ∃ a cap, e = .returned (.slice a (rawF (strI s)).length cap) ∧ Reads w' .i64 a cap (rawF (strI s)) ∧ Below w.heap.size w w' := by
  obtain ⟨i0, hi, hz0, hz1, hz2⟩ := info_parts Tryd.info3
  have own0 := World.ownsRow_made (base := w.heap.size) (e := 3) (size := 1) w #[] 0 (Nat.le_refl _) (by simp [maxLen]) (by simp)
  obtain ⟨cap0, w2, cs, m, hrun, hcap, hb2, hh, hcs⟩ := conv_strH s (w.alloc (.cells #[] 3))
  have hz := strI_u8 s
  have hlen : (strI s).length = s.size := strI_len s
  have hb0 : Below w.heap.size w w2 := ((Below.refl _ w).alloc (Nat.le_refl _) _).trans (hb2.mono (by simp))
  have own2 := owns_later own0 hb2
  have hl2 : w.heap.size + 1 < w2.heap.size := by have := lt_of_block hh; simpa using this
  rw [World.size_alloc] at hh hrun
  have HCS := Lib.hid hcs
  generalize hN : s.size = len at *
  have HSN := Lib.hid hN
  clear hN hb2 own0 hcs
  have hlenI : len ≤ 100000 := hs
  go_enter Tryd.func14, Tryd.ntmps14
  go_wp2
  go_loopw [3, 5] (fun v i wr => ∃ (k : Nat) (acc : List Int), k ≤ len ∧ acc.length ≤ k ∧ i = .int .i64 k ∧ wr.ownsRow w.heap.size 3 1 v acc.length (acc.map (Value.int .i64)) ∧ rawF (strI s) = acc ++ rawF ((strI s).drop k) ∧ Below w.heap.size w wr ∧ wr.heap[w.heap.size + 1]? = some (.cells cs 5 m))
    (fun _ i _ => len - (intOf i).toNat)
  case atStart => exact ⟨0, [], by omega, by simp, rfl, own2, rfl, hb0, hh⟩
  case round =>
    obtain ⟨k, acc, hk, hacc, rfl, hown, heq, hbl, hhr⟩ := hrel
    by_cases hlt : k < len
    · have hne : (strI s).drop k ≠ [] := by intro h; have := congrArg List.length h; rw [List.length_drop, hlen] at this; simp at this; omega
      have hst := rawF_step ((strI s).drop k) hne
      have hn := readF_size ((strI s).drop k) hne
      have hat := at_str hhr HCS.out
      have hri := charF_right ((strI s).drop k) (hz.drop k) hne
      rw [List.length_drop, hlen] at hn
      have cF := first_callH (w.heap.size + 1) 0 len cap0 k (strI s) wr hlen hlt hcap (by omega) hat hz
      obtain ⟨c, hc⟩ : ∃ c, charF ((strI s).drop k) = c := ⟨_, rfl⟩
      obtain ⟨n, hn'⟩ : ∃ n, sizeF ((strI s).drop k) = n := ⟨_, rfl⟩
      have hn2 : 1 ≤ n ∧ n ≤ len - k := by rw [← hn']; exact hn
      rw [hc, hn'] at cF
      rw [hc, hn', List.drop_drop] at hst
      rw [hst] at heq
      have HE := Lib.hid heq
      clear heq hst hn hri hat hne hc hn'
      obtain ⟨hn1, hn2⟩ := hn2
      go_wp2_with fail
      refine cF.mono ?_
      rintro e w3 ⟨rfl, hb3⟩
      have hown2 := owns_later hown hb3
      have hbl2 := hbl.trans (hb3.mono hbl.size)
      have hhr2 := (hb3.block _ (lt_of_block hhr)).trans hhr
      clear hown hb3 cF hhr
      go_wp2_with (at_builtin; refine wpList_append_own _ rfl _ _ 34 rfl w.heap.size 3 i0 (.int .i64 0) 1 8 Tryd.underlying34 hi hz0 hz1 hz2 rfl (by decide) _ _ _ rfl (hown2.alloc _) ⟨w3.heap.size, 0, none⟩ 1 1 [.int .i64 c] rfl rfl (cell_one_new _ _ _) (fun x hx => by simp at hx; subst hx; rfl) (by unfold maxLen; omega) (by omega) (by have := hbl2.size; simp; omega) ?_; intro v' w4 hown3 hgrow3 _)
      have hown4 := owns_snoc hown3
      have hbl4 : Below w.heap.size w w4 := hbl2.trans (Below.of_grown (grown_trans (World.grownBy_alloc w3 _ _) hgrow3) hbl2.size (fun j hj => (hown2.lt j hj).1))
      have hhr4 : w4.heap[w.heap.size + 1]? = some (.cells cs 5 m) := (hgrow3.block _ (by have := lt_of_block hhr2; simp; omega) (fun e => owns_int_ne hown2 hhr2 e.symm)).trans ((heap_alloc_old w3 _ (lt_of_block hhr2)).trans hhr2)
      go_roundw
      case rel => exact ⟨k + n, acc ++ [c], by omega, by simp; omega, by go_num, hown4, by rw [HE.out]; simp, hbl4, hhr4⟩
      case measure => simp [intOf]; omega
    · have hkl : k = len := by omega
      go_wp2
      go_ret
      have hend : rawF (strI s) = acc := by rw [heq, List.drop_eq_nil_of_le (by rw [hlen]; omega), rawF_nil, List.append_nil]
      obtain ⟨a, cp, hv, hrd⟩ := Reads.of_owns hown
      rw [← hend] at hv hrd
      exact ⟨a, cp, by rw [← hv]; rfl, hrd, hbl⟩

set_option maxRecDepth 100000 in
set_option maxHeartbeats 1000000 in
theorem rput_any (c : Int) (w : World) (h : rightB c = true) : Calls Tryd.prog 15 #[.int .i64 c] w (Told (.string (strOfNums (putF c))) w) := by
  obtain ⟨h0, h1⟩ := right_ch h
  have cP := put_any c w h0 h1
  have HU := Lib.hid (putF_u8 c h)
  generalize putF c = zs at *
  clear h
  go_enter Tryd.func15, Tryd.ntmps15
  go_wp2_with fail
  refine cP.mono ?_
  rintro e w1 ⟨a, cap, rfl, hr, hb⟩
  have cv := conv3_any w1 24 5 9 Tryd.underlying24 Tryd.underlying5 Tryd.underlying9 a zs.length cap zs rfl hr
  go_wp2
  go_ret
  exact ⟨rfl, hb⟩
end Go.Proofs.YtdopmkiogmejaaaDoor
