/- Texts of mine in one: Gb Fp1 Ec1 Fp2. -/
import Derived.Test.YtcfhggdiccilaaaGreatQ06
import Derived.Test.YtcfhggdiccilaaaGreatQ12
import Derived.Test.YtcfhggdiccilaaaGreatQ01
import Derived.Deep.RegionHeld3
namespace Go.Proofs.YtcfhggdiccilaaaGreat
section
open Go.RowKit
set_option linter.unusedVariables false
set_option maxRecDepth 100000 in
set_option maxHeartbeats 1000000 in
theorem first_someB (b off len cap p : Nat) (zs : List Int) (w : World) (hlen : zs.length = len) (hp : p < len) (hl : len ≤ cap) (hsm : len ≤ 140737488355328) (hat : At w .u8 b off zs) (hz : U8 zs) :
    Calls Tryz.prog 59 #[.slice (some ⟨b, off, none⟩) len cap, .int .i64 p] w (FirstPost (zs.drop p) w) := by
  have HL : Hid ((zs.drop p).length = len - p) := Lib.hid (by rw [List.length_drop, hlen])
  clear hlen
  have hatd := hat.drop p
  have hzd := hz.drop p
  generalize zs.drop p = ys at *
  clear hat hz
  go_enter Tryz.func59, Tryz.ntmps59
  go_wp2
  go_loopw [6] (fun i wr => ∃ s : Nat, 1 ≤ s ∧ s ≤ 5 ∧ i = .int .i64 s ∧ (∀ t, 1 ≤ t → t < s → t ≤ ys.length → wholeF (ys.take t) = false) ∧ (5 ≤ s ∨ s ≤ len - p + 1) ∧ Below w.heap.size w wr) (fun i _ => 5 - (intOf i).toNat)
  case atStart => exact ⟨1, by omega, by omega, rfl, fun t h h' => by omega, by omega, Below.refl _ _⟩
  case round =>
    obtain ⟨s, hs1, hs2, rfl, hno, hs3, hbl⟩ := hrel
    have HN := Lib.hid hno; clear hno
    have hat1 := hatd.later hbl hatd.1
    by_cases hlt : s ≤ 4 ∧ p + s ≤ len
    · obtain ⟨hlt1, hlt2⟩ := hlt
      go_wp2_with fail
      refine (whole_some b (off + p) s (cap - p) (ys.take s) wr (by rw [List.length_take, HL.out]; omega) hs1 hlt1 (hat1.take s) (hzd.take s)).mono ?_
      rintro e w1 ⟨rfl, hb1⟩
      have hbl1 := hbl.trans (hb1.mono hbl.size)
      have hat2 := hatd.later hbl1 hatd.1
      by_cases hw1 : wholeF (ys.take s) = true
      · have HW := Lib.hid hw1
        rw [hw1]
        clear hw1
        go_wp2_with fail
        refine (told_some b (off + p) s (cap - p) (ys.take s) w1 (by rw [List.length_take, HL.out]; omega) hs1 hlt1 (hat2.take s) (hzd.take s)).mono ?_
        rintro e w2 ⟨rfl, hb2⟩
        have hbl2 := hbl1.trans (hb2.mono hbl1.size)
        go_wp2
        go_ret2
        exact ⟨_, s, rfl, .inl ⟨hs1, hlt1, by rw [HL.out]; omega, HW.out, rfl⟩, hbl2⟩
      · have hw1' : wholeF (ys.take s) = false := by simpa using hw1
        have HW := Lib.hid hw1'
        rw [hw1']
        clear hw1 hw1'
        go_wp2
        go_roundw
        case rel =>
          refine ⟨s + 1, by omega, by omega, by go_num, fun t h1 h2 h3 => ?_, by omega, hbl1⟩
          rcases Nat.lt_or_ge t s with h | h
          · exact HN.out t h1 h h3
          · rw [show t = s from by omega]; exact HW.out
        case measure => simp [intOf]; omega
    · have hall : ∀ t, 1 ≤ t → t ≤ 4 → t ≤ ys.length → wholeF (ys.take t) = false := fun t h1 h2 h3 => HN.out t h1 (by rw [HL.out] at h3; omega) h3
      have HA := Lib.hid hall; clear hall
      have hor : 4 < (s : Int) ∨ ((s : Int) ≤ 4 ∧ (len : Int) < (p : Int) + (s : Int)) := by omega
      rcases hor with hor | ⟨hor1, hor2⟩
      all_goals
        go_wp2
        go_loopw [7] (fun i wr => ∃ s : Nat, 1 ≤ s ∧ s ≤ 3 ∧ i = .int .i64 s ∧ (∀ t, s < t → t ≤ 3 → t ≤ ys.length → beginsF (ys.take t) = false) ∧ Below w.heap.size w wr) (fun i _ => (intOf i).toNat)
        case atStart => exact ⟨3, by omega, by omega, rfl, fun t h h' => by omega, hbl⟩
        case round =>
          obtain ⟨s2, hs4, hs5, rfl, hno2, hbl2⟩ := hrel
          have HN2 := Lib.hid hno2; clear hno2
          have hat3 := hatd.later hbl2 hatd.1
          by_cases hgt : 1 < s2
          · have hgt' : (1 : Int) < (s2 : Int) := by omega
            by_cases hle : p + s2 ≤ len
            · have hle' : (p : Int) + (s2 : Int) ≤ (len : Int) := by omega
              go_wp2_with fail
              refine (begins_some b (off + p) s2 (cap - p) (ys.take s2) _ (by rw [List.length_take, HL.out]; omega) hs4 (by omega) (hat3.take s2) (hzd.take s2)).mono ?_
              rintro e w3 ⟨rfl, hb3⟩
              have hbl3 := hbl2.trans (hb3.mono hbl2.size)
              by_cases hw2 : beginsF (ys.take s2) = true
              · have HW := Lib.hid hw2
                rw [hw2]
                clear hw2
                go_wp2
                go_ret2
                exact ⟨_, s2, rfl, .inr ⟨HA.out, rfl, hs4, hs5, .inr ⟨by rw [HL.out]; omega, HW.out⟩, fun t h1 h2 h3 => HN2.out t h1 h2 h3⟩, hbl3⟩
              · have hw2' : beginsF (ys.take s2) = false := by simpa using hw2
                have HW := Lib.hid hw2'
                rw [hw2']
                clear hw2 hw2'
                go_wp2
                go_roundw
                case rel =>
                  refine ⟨s2 - 1, by omega, by omega, by go_num, fun t h1 h2 h3 => ?_, hbl3⟩
                  rcases Nat.lt_or_ge s2 t with h | h
                  · exact HN2.out t h h2 h3
                  · rw [show t = s2 from by omega]; exact HW.out
                case measure => simp [intOf]; omega
            · have hle' : decide ((p : Int) + (s2 : Int) ≤ (len : Int)) = false := by rw [decide_eq_false_iff_not]; omega
              go_wp2
              go_roundw
              case rel =>
                refine ⟨s2 - 1, by omega, by omega, by go_num, fun t h1 h2 h3 => ?_, hbl2⟩
                rcases Nat.lt_or_ge s2 t with h | h
                · exact HN2.out t h h2 h3
                · rw [HL.out] at h3; omega
              case measure => simp [intOf]; omega
          · have : s2 = 1 := by omega
            subst this
            go_wp2
            go_ret2
            exact ⟨_, 1, rfl, .inr ⟨HA.out, rfl, by omega, by omega, .inl rfl, fun t h1 h2 h3 => HN2.out t h1 h2 h3⟩, hbl2⟩
theorem first_callB (b off len cap p : Nat) (zs : List Int) (w : World) (hlen : zs.length = len) (hp : p < len) (hl : len ≤ cap) (hsm : len ≤ 140737488355328) (hat : At w .u8 b off zs) (hz : U8 zs) :
    Calls Tryz.prog 59 #[.slice (some ⟨b, off, none⟩) len cap, .int .i64 p] w fun e w' =>
      e = .returned (.tuple #[.int .i64 (charF (zs.drop p)), .int .i64 (sizeF (zs.drop p))]) ∧ Below w.heap.size w w' :=
  (first_someB b off len cap p zs w hlen hp hl hsm hat hz).mono fun e w' ⟨c, n, he, hs, hb⟩ => by
    obtain ⟨h1, h2, _⟩ := first_eq (zs.drop p) (hz.drop p) (by rw [List.length_drop]; omega) hs
    rw [← h1, ← h2]; exact ⟨he, hb⟩
set_option maxRecDepth 100000 in
set_option maxHeartbeats 1000000 in
theorem good_someB (b off len cap : Nat) (zs : List Int) (w : World) (hlen : zs.length = len) (h1 : 1 ≤ len) (hl : len ≤ cap) (hcap : cap ≤ maxLen)
    (hat : At w .u8 b off zs) (hz : U8 zs) (hsm : len ≤ 140737488355328) :
    Calls Tryz.prog 68 #[.slice (some ⟨b, off, none⟩) len cap] w (BoolPost (rightF zs) w) := by
  unfold maxLen at hcap
  have H0 := Lib.hid hlen; clear hlen
  go_enter Tryz.func68, Tryz.ntmps68
  go_wp2
  go_loopw [3] (fun i wr => ∃ k : Nat, k ≤ len ∧ i = .int .i64 k ∧ rightF zs = rightFrom zs k ∧ Below w.heap.size w wr) (fun i _ => len - (intOf i).toNat)
  case atStart => exact ⟨0, by omega, rfl, rfl, Below.refl _ _⟩
  case round =>
    obtain ⟨k, hk, rfl, heq, hbl⟩ := hrel
    have HE := Lib.hid heq; clear heq
    by_cases hlt : k < len
    · have hkz : k < zs.length := by rw [H0.out]; exact hlt
      have HS := Lib.hid (rightFrom_step zs k hkz)
      have HR := Lib.hid (rightFrom_first zs k hkz hz)
      have hl1 : 1 ≤ (zs.drop k).length := by rw [List.length_drop]; omega
      have HZ := Lib.hid (charF_zero (zs.drop k))
      have hn := (read_spec (zs.drop k) (hz.drop k) hl1)
      have hn1 : 1 ≤ sizeF (zs.drop k) ∧ sizeF (zs.drop k) ≤ 4 ∧ sizeF (zs.drop k) ≤ len - k := ⟨hn.1, hn.2.1, by have := hn.2.2.1; rw [List.length_drop, H0.out] at this; exact this⟩
      have hcb := charF_bd (zs.drop k) (hz.drop k)
      have hat' := (hat.later hbl hat.1)
      have hc0 := hat'.2 k hkz
      have hz0 := hz.at k
      have HD : Hid ((zs.drop k)[0]?.getD 0 = zs[k]?.getD 0) := Lib.hid (by rw [List.getElem?_drop]; rfl)
      clear hn hl1 hkz
      generalize hc : charF (zs.drop k) = c at *
      generalize hn' : sizeF (zs.drop k) = n at *
      have HC := Lib.hid hc; clear hc
      have HN := Lib.hid hn'; clear hn'
      obtain ⟨hn1, hn4, hn2⟩ := hn1
      obtain ⟨hc1, hc2⟩ := hcb
      go_wp2_with fail
      refine (first_callB b off len cap k zs wr H0.out hlt hl hsm hat' hz).mono ?_
      rintro e w2 ⟨he, hb2⟩
      rw [HC.out, HN.out] at he
      subst he
      have hbl2 := hbl.trans (hb2.mono hbl.size)
      have hat2 := hat.later hbl2 hat.1
      have hc2' := (hb2.cell (p := ⟨b, off + k, none⟩) hat'.1).trans hc0
      clear hb2
      by_cases hb0 : zs[k]?.getD 0 = 0
      · have hf := HZ.out (HD.out.trans hb0)
        have HF : Hid (rightF zs = false) := Lib.hid (by rw [HE.out, HS.out, if_neg (by rw [HR.out.2 hf.2]; rintro ⟨_, h⟩; exact h hf.1)])
        rw [hb0] at hc2'
        clear hf hb0 hc0 hz0
        go_wp2
        go_ret
        exact ⟨ret_bool HF.out.symm, hbl2⟩
      · have hb1 : (zs[k]?.getD 0 == 0) = false := by rw [beq_eq_false_iff_ne]; exact hb0
        clear hb0 hc0
        generalize zs[k]?.getD 0 = z at hc2' hb1 hz0
        go_wp2_with fail
        refine (whole_some b (off + k) n (cap - k) ((zs.drop k).take n) w2 (by rw [List.length_take, List.length_drop, H0.out]; omega) hn1 hn4 ((hat2.drop k).take n) ((hz.drop k).take n)).mono ?_
        rintro e w3 ⟨rfl, hb3⟩
        have hbl3 := hbl2.trans (hb3.mono hbl2.size)
        have HW : Hid ((readF (zs.drop k)).2.2 = wholeF ((zs.drop k).take n)) := Lib.hid HR.out.1
        generalize hw : wholeF ((zs.drop k).take n) = o at *
        have HO := Lib.hid hw; clear hw
        cases o
        case false =>
          have HF : Hid (rightF zs = false) := Lib.hid (by rw [HE.out, HS.out, if_neg (by rw [HW.out]; simp)])
          go_wp2
          go_ret
          exact ⟨ret_bool HF.out.symm, hbl3⟩
        case true =>
          have HI : Hid ((readF (zs.drop k)).1 = c) := Lib.hid (HR.out.2 HW.out)
          by_cases hcz : c = 0
          · subst hcz
            have HF : Hid (rightF zs = false) := Lib.hid (by rw [HE.out, HS.out, if_neg (by rw [HI.out]; simp)])
            go_wp2
            go_ret
            exact ⟨ret_bool HF.out.symm, hbl3⟩
          · have hcz' : (c == 0) = false := by rw [beq_eq_false_iff_ne]; exact hcz
            have HF : Hid (rightF zs = rightFrom zs (k + n)) := Lib.hid (by rw [HE.out, HS.out, if_pos ⟨HW.out, by rw [HI.out]; exact hcz⟩])
            clear hcz
            go_wp2
            go_roundw
            case rel => exact ⟨k + n, by omega, by go_num, HF.out, hbl3⟩
            case measure => simp [intOf]; omega
    · have hkl : k = len := by omega
      go_wp2
      go_ret
      exact ⟨ret_bool (by rw [HE.out, rightFrom_end zs k (by rw [H0.out]; omega)]), hbl⟩
theorem good_anyB (a : Option Addr) (cap : Nat) (zs : List Int) (w : World) (hr : Reads w .u8 a cap zs) (hz : U8 zs) (hsm : zs.length ≤ 140737488355328) :
    Calls Tryz.prog 68 #[.slice a zs.length cap] w (BoolPost (rightF zs) w) := by
  obtain ⟨h1, h2, h3⟩ := hr
  rcases h3 with rfl | ⟨b, off, rfl, hat⟩
  · exact good_none a cap w
  · by_cases h0 : zs = []
    · subst h0; exact good_none _ cap w
    · exact good_someB b off zs.length cap zs w rfl (List.length_pos_iff.2 h0) h1 h2 hat hz hsm
theorem conv_readsB (s : ByteArray) (w : World) (hs : s.size ≤ 140737488351232) : ∃ cap w', (convert 9 48 (.string s)).run Tryz.prog w = .ok (.slice (some ⟨w.heap.size, 0, none⟩) s.size cap) w' ∧ Below w.heap.size w w' ∧ Reads w' .u8 (some ⟨w.heap.size, 0, none⟩) cap (nmI s) := by
  have hl := nmI_len s
  have hh := heap_alloc_new w.drew (.cells (bytesRow s (grownCap w s.size 0 5)) 5 ((bytesRow s (grownCap w s.size 0 5)).size, (bytesRow s (grownCap w s.size 0 5)).size + 1))
  refine ⟨_, _, run_bytes_of_string w 9 48 5 s Tryz.underlying9 Tryz.underlying48 Tryz.underlying5, ((Below.refl _ w).drew).alloc (Nat.le_refl _) _, ⟨by rw [hl]; exact grownCap_ge _ _ _ _, grownCap_le_maxLen _ _ _ _ (by unfold maxLen; omega), .inr ⟨_, _, rfl, by simp, fun j hj => ?_⟩⟩⟩
  rw [hl] at hj
  rw [Nat.zero_add]
  have hjs : j < s.data.size := hj
  have hv : (bytesRow s (grownCap w s.size 0 5))[j]? = some (Value.int .u8 ((nmI s)[j]?.getD 0)) := by
    unfold bytesRow
    rw [Array.getElem?_append_left (by simpa using hjs), Array.getElem?_map, Array.getElem?_eq_getElem hjs]
    have : (nmI s)[j]? = some (((s.data[j]'hjs).toNat : Nat) : Int) := by
      unfold nmI
      rw [List.getElem?_map, Array.getElem?_toList, Array.getElem?_eq_getElem hjs]; rfl
    rw [this]; rfl
  show World.cell? _ ⟨w.drew.heap.size, j, none⟩ = _
  simp only [World.cell?, hh]
  simpa using hv
end

section
open Go.RowKit
set_option linter.unusedVariables false
set_option linter.unusedSimpArgs false
section
variable {α : Type} {T : TypeId} {sz : Nat} {cel : α → Option Addr → Nat → Nat → List Value} {R : (Nat → Prop) → World → Option Addr → Nat → Nat → α → Prop}
def Rg (sz : Nat) (cel : α → Option Addr → Nat → Nat → List Value) (R : (Nat → Prop) → World → Option Addr → Nat → Nat → α → Prop) (ok : Nat → Prop) (w : World) (a : Option Addr) (n c : Nat) (xs : List α) : Prop :=
  RsOf ok sz (fun b o x => ∃ a n c, (∀ f u, (cel x a n c)[f]? = some u → w.cell? ⟨b, o + f, none⟩ = some u) ∧ R ok w a n c x) a n c xs
theorem Rg_moves (hM : Moves R) : Moves (Rg sz cel R) := fun ok ok' w w' a n c xs ho h =>
  RsOf.imp h (fun b hb => (ho b hb).1) (fun b o x hb hx => by
    obtain ⟨xa, xn, xc, h1, h2⟩ := hx
    exact ⟨xa, xn, xc, fun f u hu => (cell_sameS (ho b hb).2 _).trans (h1 f u hu), hM _ _ _ _ _ _ _ _ ho h2⟩)
def RowK (T : TypeId) (sz : Nat) (cel : α → Option Addr → Nat → Nat → List Value) (R : (Nat → Prop) → World → Option Addr → Nat → Nat → α → Prop) (ok : Nat → Prop) (w : World) (base : Nat) (v : Value) (out : List α) : Prop :=
  ∃ ys : List (α × Option Addr × Nat × Nat), out = ys.map (·.1) ∧ w.ownsRow base T sz v out.length (ys.flatMap fun y => cel y.1 y.2.1 y.2.2.1 y.2.2.2) ∧ ∀ y ∈ ys, R ok w y.2.1 y.2.2.1 y.2.2.2 y.1
theorem RowK.nil {ok : Nat → Prop} {w : World} {base : Nat} {v : Value} (h : w.ownsRow base T sz v 0 []) : RowK T sz cel R ok w base v [] := ⟨[], rfl, by simpa using h, by simp⟩
theorem RowK.own {ok : Nat → Prop} {w : World} {base g : Nat} {v : Value} {out : List α} (h : RowK T sz cel R ok w base v out) (hv : v.ownBlock = some g) : base ≤ g ∧ g < w.heap.size := by
  obtain ⟨ys, _, ⟨_, ⟨rfl, _⟩ | ⟨g', cap, cur, rfl, hb, hc, _⟩⟩, _⟩ := h
  · cases hv
  · obtain rfl := Option.some.inj hv
    exact ⟨hb, (Array.getElem?_eq_some_iff.1 hc).1⟩
theorem owns_stay {w w' : World} {base n : Nat} {v : Value} {xs : List Value} (hg : ∀ g, v.ownBlock = some g → w'.heap[g]? = w.heap[g]?) (h : w.ownsRow base T sz v n xs) : w'.ownsRow base T sz v n xs := by
  obtain ⟨h1, h2 | ⟨g, cap, cur, rfl, hb, hc, r⟩⟩ := h
  · exact ⟨h1, .inl h2⟩
  · exact ⟨h1, .inr ⟨g, cap, cur, rfl, hb, (hg g rfl).trans hc, r⟩⟩
theorem RowK.stay (hM : Moves R) {ok ok' : Nat → Prop} {w w' : World} {base : Nat} {v : Value} {out : List α} (hg : ∀ g, v.ownBlock = some g → w'.heap[g]? = w.heap[g]?) (ho : ∀ b, ok b → ok' b ∧ w'.heap[b]? = w.heap[b]?) (h : RowK T sz cel R ok w base v out) : RowK T sz cel R ok' w' base v out := by
  obtain ⟨ys, h1, h2, h3⟩ := h
  exact ⟨ys, h1, owns_stay hg h2, fun y hy => hM _ _ _ _ _ _ _ _ ho (h3 y hy)⟩
theorem RowK.snoc (hM : Moves R) {ok ok' : Nat → Prop} {w w' : World} {base : Nat} {v' : Value} {out : List α} {x : α} {a : Option Addr} {n c : Nat} {ys : List (α × Option Addr × Nat × Nat)} (h1 : out = ys.map (·.1))
    (h3 : ∀ y ∈ ys, R ok w y.2.1 y.2.2.1 y.2.2.2 y.1) (hx : R ok w a n c x) (ho : ∀ b, ok b → ok' b ∧ w'.heap[b]? = w.heap[b]?)
    (hw : w'.ownsRow base T sz v' (out.length + 1) ((ys.flatMap fun y => cel y.1 y.2.1 y.2.2.1 y.2.2.2) ++ cel x a n c)) :
    RowK T sz cel R ok' w' base v' (out ++ [x]) := by
  refine ⟨ys ++ [(x, a, n, c)], by simp [h1], by simpa using hw, fun y hy => ?_⟩
  rcases List.mem_append.1 hy with hy | hy
  · exact hM _ _ _ _ _ _ _ _ ho (h3 y hy)
  · obtain rfl := List.mem_singleton.1 hy
    exact hM _ _ _ _ _ _ _ _ ho hx
theorem RowK.rd (hM : Moves R) (hL : ∀ x a n c, (cel x a n c).length = sz) {ok ok' : Nat → Prop} {w : World} {base : Nat} {v : Value} {out : List α} (h : RowK T sz cel R ok w base v out) (hn : out.length ≤ 100000000) (ho : ∀ b, ok b → ok' b) (hv : ∀ g, v.ownBlock = some g → ok' g) :
    ∃ a c, v = .slice a out.length c ∧ Rg sz cel R ok' w a out.length c out := by
  obtain ⟨ys, h1, ⟨h2, ⟨hv', h0⟩ | ⟨g, cap, cur, rfl, hb, hc, hnc, hcm, hcs, htk⟩⟩, h3⟩ := h
  · refine ⟨none, 0, by rw [hv', h0], rfl, by omega, ⟨by unfold maxLen; omega, by omega⟩, .inl (List.length_eq_zero_iff.1 h0)⟩
  · refine ⟨_, cap, rfl, rfl, hnc, ⟨hcm, by omega⟩, ?_⟩
    have hB : Blk w g cur.toList T := by unfold Blk; simpa using hc
    refine .inr ⟨g, 0, rfl, hv g rfl, fun i x hx => ?_⟩
    subst h1
    rw [List.getElem?_map] at hx
    obtain ⟨y, hy, rfl⟩ := Option.map_eq_some_iff.1 hx
    refine ⟨y.2.1, y.2.2.1, y.2.2.2, fun f u hu => ?_, hM _ _ _ _ _ _ _ _ (fun b hb => ⟨ho b hb, rfl⟩) (h3 y (List.mem_of_getElem? hy))⟩
    have hf : f < sz := by have := (List.getElem?_eq_some_iff.1 hu).1; rwa [hL] at this
    have hg := flatG_get (cel := cel) hL ys i f y hy hf
    rw [hu, ← htk, List.getElem?_take] at hg
    split at hg
    · rw [Nat.zero_add]; exact hB.cell _ _ hg
    · cases hg
end
def IntsAt (ok : Nat → Prop) (w : World) (a : Option Addr) (n c : Nat) (xs : List Int) : Prop := RsOf ok 1 (fun b o (x : Int) => w.cell? ⟨b, o, none⟩ = some (.int .i64 x)) a n c xs
theorem IntsAt_moves : ∀ ok ok' w w' a n c xs, (∀ b, ok b → ok' b ∧ w'.heap[b]? = w.heap[b]?) → IntsAt ok w a n c xs → IntsAt ok' w' a n c xs := fun ok ok' w w' a n c xs ho h =>
  RsOf.imp h (fun b hb => (ho b hb).1) (fun b o x hb hx => (cell_sameS (ho b hb).2 _).trans hx)
def tmCells (t : Tm) (a : Option Addr) (n c : Nat) : List Value := [.int .i64 t.kind, .int .i64 t.num, .slice a n c]
def TmsAt : Nat → (Nat → Prop) → World → Option Addr → Nat → Nat → List Tm → Prop
  | 0 => fun _ _ _ n c ts => n = 0 ∧ c ≤ maxLen ∧ ts = []
  | f + 1 => Rg 3 tmCells (fun ok w a n c t => TmsAt f ok w a n c t.subs)
theorem TmsAt_moves : ∀ f, Moves (α := List Tm) (TmsAt f)
  | 0 => fun _ _ _ _ _ _ _ _ _ h => h
  | f + 1 => Rg_moves (α := Tm) (fun ok ok' w w' a n c t ho h => TmsAt_moves f ok ok' w w' a n c t.subs ho h)
theorem TmsAt.nil (f : Nat) (ok : Nat → Prop) (w : World) : TmsAt f ok w none 0 0 [] := by
  cases f with
  | zero => exact ⟨rfl, by unfold maxLen; omega, rfl⟩
  | succ f => exact ⟨rfl, Nat.le_refl _, ⟨by unfold maxLen; omega, by omega⟩, .inl rfl⟩
theorem TmsAt.up : ∀ (f : Nat) {ok : Nat → Prop} {w : World} {a : Option Addr} {n c : Nat} {ts : List Tm}, TmsAt f ok w a n c ts → TmsAt (f + 1) ok w a n c ts
  | 0, ok, w, a, n, c, ts, h => by
    obtain ⟨rfl, h2, rfl⟩ := h
    exact ⟨rfl, Nat.zero_le _, ⟨h2, by omega⟩, .inl rfl⟩
  | f + 1, ok, w, a, n, c, ts, h => by
    have h' : Rg 3 tmCells (fun ok w a n c t => TmsAt f ok w a n c t.subs) ok w a n c ts := h
    show Rg 3 tmCells (fun ok w a n c t => TmsAt (f + 1) ok w a n c t.subs) ok w a n c ts
    refine RsOf.imp h' (fun _ hb => hb) (fun b o x hb hx => ?_)
    obtain ⟨xa, xn, xc, h1, h2⟩ := hx
    exact ⟨xa, xn, xc, h1, TmsAt.up f h2⟩
def stCells (s : Int × List Tm) (a : Option Addr) (n c : Nat) : List Value := [.int .i64 s.1, .slice a n c]
def RSt (ok : Nat → Prop) (w : World) (a : Option Addr) (n c : Nat) (s : Int × List Tm) : Prop := TmsAt 6 ok w a n c s.2
theorem RSt_moves : Moves RSt := fun ok ok' w w' a n c s ho h => TmsAt_moves 6 ok ok' w w' a n c s.2 ho h
def roCells (r : RowF) (a : Option Addr) (n c : Nat) : List Value := [.int .i64 (r.first : Nat), .slice a n c, .string r.pseudo]
def RRo (ok : Nat → Prop) (w : World) (a : Option Addr) (n c : Nat) (r : RowF) : Prop := Rg 2 stCells RSt ok w a n c r.steps
theorem RRo_moves : Moves RRo := fun ok ok' w w' a n c r ho h => Rg_moves RSt_moves ok ok' w w' a n c r.steps ho h
def ctCells (x : CtF) (a : Option Addr) (n c : Nat) : List Value := [.int .i64 x.a, .int .i64 x.b, .slice a n c]
def RCt (ok : Nat → Prop) (w : World) (a : Option Addr) (n c : Nat) (x : CtF) : Prop := IntsAt ok w a n c x.rows
theorem RCt_moves : Moves RCt := fun ok ok' w w' a n c x ho h => IntsAt_moves ok ok' w w' a n c x.rows ho h
def liCells (x : List Int) (a : Option Addr) (n c : Nat) : List Value := [.slice a n c]
def RLi (ok : Nat → Prop) (w : World) (a : Option Addr) (n c : Nat) (x : List Int) : Prop := IntsAt ok w a n c x
theorem RLi_moves : Moves RLi := fun ok ok' w w' a n c x ho h => IntsAt_moves ok ok' w w' a n c x ho h
def atCells (x : AtF) : List Value := [.int .i64 x.kind, .bool x.has, .string x.space, .string x.name, .int .i64 x.op, .string x.text, .bool x.fold]
structure PV where
  va : Value
  vr : Value
  vc : Value
  vl : Value
def PV.own (V : PV) : List (Option Nat) := [V.va.ownBlock, V.vr.ownBlock, V.vc.ownBlock, V.vl.ownBlock]
def okE (base : Nat) (w : World) (ex : List (Option Nat)) (b : Nat) : Prop := base ≤ b ∧ b < w.heap.size ∧ some b ∉ ex
structure NmV where
  pa : Option Addr
  pn : Nat
  pc : Nat
  sa : Option Addr
  sn : Nat
  sc : Nat
def nmCells (nm : Nm) (N : NmV) : List Value := [.bool nm.hd, .string nm.df, .slice N.pa N.pn N.pc, .slice N.sa N.sn N.sc]
structure NmAt (ok : Nat → Prop) (w : World) (N : NmV) (nm : Nm) : Prop where
  pres : RsOf ok 1 (TxtAt w) N.pa N.pn N.pc nm.ps
  spcs : RsOf ok 1 (TxtAt w) N.sa N.sn N.sc nm.ss
theorem NmAt.move {ok ok' : Nat → Prop} {w w' : World} {N : NmV} {nm : Nm} (h : NmAt ok w N nm) (ho : ∀ b, ok b → ok' b ∧ w'.heap[b]? = w.heap[b]?) : NmAt ok' w' N nm :=
  ⟨RsOf.imp h.pres (fun b hb => (ho b hb).1) (fun b o x hb hx => hx.move (ho b hb).2), RsOf.imp h.spcs (fun b hb => (ho b hb).1) (fun b o x hb hx => hx.move (ho b hb).2)⟩
structure PenAt (w : World) (p base : Nat) (N : NmV) (nm : Nm) (st : PenS) (V : PV) (X : List (Option Nat)) : Prop where
  blk : Blk w p (nmCells nm N ++ [V.va, V.vr, V.vc, V.vl, .int .i64 (st.steps : Nat)]) 70
  pb : p < base
  bw : base ≤ w.heap.size
  names : NmAt (· < p) w N nm
  atoms : w.ownsRow base 156 7 V.va st.atoms.length (st.atoms.flatMap atCells)
  rows : RowK 78 3 roCells RRo (okE base w (V.own ++ X)) w base V.vr st.rows
  ctrs : RowK 62 3 ctCells RCt (okE base w (V.own ++ X)) w base V.vc st.ctrs
  lists : RowK 27 1 liCells RLi (okE base w (V.own ++ X)) w base V.vl st.lists
  dist : ((V.own ++ X).filterMap id).Pairwise (· ≠ ·)
  xs : ∀ b, some b ∈ X → base ≤ b ∧ b < w.heap.size
structure PG (w w' : World) (p : Nat) (V V' : PV) : Prop where
  os : w'.os = w.os
  tape : w'.tape = w.tape
  output : w'.output = w.output
  size : w.heap.size ≤ w'.heap.size
  block : ∀ b, b < w.heap.size → b ≠ p → some b ∉ V.own → w'.heap[b]? = w.heap[b]?
  moved : ∀ b, some b ∈ V'.own → some b ∈ V.own ∨ w.heap.size ≤ b
theorem PG.of_below {w w' : World} {p : Nat} {V : PV} (h : Below w.heap.size w w') : PG w w' p V V := ⟨h.os, h.tape, h.output, h.size, fun b hb _ _ => h.block b hb, fun b hb => .inl hb⟩
theorem PG.trans {a b c : World} {p : Nat} {V V' V'' : PV} (h : PG a b p V V') (k : PG b c p V' V'') : PG a c p V V'' := by
  refine ⟨k.os.trans h.os, k.tape.trans h.tape, k.output.trans h.output, Nat.le_trans h.size k.size, fun x hx hp hv => ?_, fun x hx => ?_⟩
  · refine (k.block x (Nat.lt_of_lt_of_le hx h.size) hp (fun hm => ?_)).trans (h.block x hx hp hv)
    rcases h.moved x hm with h1 | h1
    · exact hv h1
    · omega
  · rcases k.moved x hx with h1 | h1
    · exact h.moved x h1
    · exact .inr (Nat.le_trans h.size h1)
theorem PG.of_grown {w w' : World} {p : Nat} {V : PV} {row : Option Nat} (h : w.grownBy w' row) (hr : ∀ g, row = some g → g = p ∨ some g ∈ V.own ∨ w.heap.size ≤ g) : PG w w' p V V :=
  ⟨h.os, h.tape, h.output, h.size, fun b hb hp hv => h.block b hb (fun e => by (rcases hr b e.symm with h1 | h1 | h1); exact hp h1; exact hv h1; omega), fun b hb => .inl hb⟩
theorem PV.own_lt {w : World} {p base : Nat} {N : NmV} {nm : Nm} {st : PenS} {V : PV} {X : List (Option Nat)} (h : PenAt w p base N nm st V X) {b : Nat} (hb : some b ∈ V.own) : base ≤ b ∧ b < w.heap.size := by
  have ho : ∀ {T : TypeId} {n sz : Nat} {v : Value} {xs : List Value}, w.ownsRow base T sz v n xs → v.ownBlock = some b → base ≤ b ∧ b < w.heap.size := by
    intro T n sz v xs hw hv
    obtain ⟨_, ⟨rfl, _⟩ | ⟨g', cap, cur, rfl, hbb, hc, _⟩⟩ := hw
    · cases hv
    · obtain rfl := Option.some.inj hv
      exact ⟨hbb, (Array.getElem?_eq_some_iff.1 hc).1⟩
  simp only [PV.own, List.mem_cons, List.not_mem_nil, or_false] at hb
  rcases hb with hb | hb | hb | hb
  · exact ho h.atoms hb.symm
  · exact h.rows.own hb.symm
  · exact h.ctrs.own hb.symm
  · exact h.lists.own hb.symm
theorem okE_pg {w w' : World} {p base : Nat} {V V' : PV} {X : List (Option Nat)} (h : PG w w' p V V') (hp : p < base) {b : Nat} (hb : okE base w (V.own ++ X) b) : okE base w' (V'.own ++ X) b ∧ w'.heap[b]? = w.heap[b]? := by
  obtain ⟨h1, h2, h3⟩ := hb
  rw [List.mem_append, not_or] at h3
  refine ⟨⟨h1, Nat.lt_of_lt_of_le h2 h.size, ?_⟩, h.block b h2 (by omega) h3.1⟩
  rw [List.mem_append, not_or]
  refine ⟨fun hm => ?_, h3.2⟩
  rcases h.moved b hm with h4 | h4
  · exact h3.1 h4
  · omega
theorem dist_mem {l : List (Option Nat)} {X : List (Option Nat)} (h : ((l ++ X).filterMap id).Pairwise (· ≠ ·)) {b : Nat} (h1 : some b ∈ l) (h2 : some b ∈ X) : False := by
  rw [List.filterMap_append, List.pairwise_append] at h
  exact h.2.2 b (List.mem_filterMap.2 ⟨_, h1, rfl⟩) b (List.mem_filterMap.2 ⟨_, h2, rfl⟩) rfl
theorem RowK.pg {α : Type} {T : TypeId} {sz : Nat} {cel : α → Option Addr → Nat → Nat → List Value} {R : (Nat → Prop) → World → Option Addr → Nat → Nat → α → Prop} (hM : Moves R) {w w' : World} {p base : Nat} {N : NmV} {nm : Nm} {st : PenS} {V V' : PV} {X : List (Option Nat)} {v : Value} {out : List α}
    (hP : PenAt w p base N nm st V X) (hg : PG w w' p V V') (hv : v.ownBlock ∈ X) (h : RowK T sz cel R (okE base w (V.own ++ X)) w base v out) : RowK T sz cel R (okE base w' (V'.own ++ X)) w' base v out := by
  refine h.stay hM (fun g hgv => ?_) (fun b hb => okE_pg hg hP.pb hb)
  have hl := h.own hgv
  rw [hgv] at hv
  exact hg.block g hl.2 (by have := hP.pb; omega) (fun hm => dist_mem hP.dist hm hv)
theorem PenAt.later {w w' : World} {p base : Nat} {N : NmV} {nm : Nm} {st : PenS} {V : PV} {X : List (Option Nat)} (h : PenAt w p base N nm st V X) (hb : Below w.heap.size w w') : PenAt w' p base N nm st V X := by
  have ho : ∀ b, okE base w (V.own ++ X) b → okE base w' (V.own ++ X) b ∧ w'.heap[b]? = w.heap[b]? := fun b h' => ⟨⟨h'.1, Nat.lt_of_lt_of_le h'.2.1 hb.size, h'.2.2⟩, hb.block b h'.2.1⟩
  have hv : ∀ g, some g ∈ V.own → w'.heap[g]? = w.heap[g]? := fun g hg => hb.block g (PV.own_lt h hg).2
  exact ⟨h.blk.later hb h.blk.lt, h.pb, Nat.le_trans h.bw hb.size, h.names.move (fun b h' => ⟨h', hb.block b (Nat.lt_trans h' h.blk.lt)⟩), owns_stay (fun g hg => hv g (by simp [PV.own, hg])) h.atoms,
    h.rows.stay RRo_moves (fun g hg => hv g (by simp [PV.own, hg])) ho, h.ctrs.stay RCt_moves (fun g hg => hv g (by simp [PV.own, hg])) ho, h.lists.stay RLi_moves (fun g hg => hv g (by simp [PV.own, hg])) ho, h.dist, fun b hx => ⟨(h.xs b hx).1, Nat.lt_of_lt_of_le (h.xs b hx).2 hb.size⟩⟩
theorem PenAt.beside {w w' : World} {p base : Nat} {N : NmV} {nm : Nm} {st : PenS} {V : PV} {X : List (Option Nat)} {r r' : Option Nat} (h : PenAt w p base N nm st V (r :: X)) (hg : w.grownBy w' r) (hr : r' = r ∨ r' = some w.heap.size) (hr2 : ∀ b, r' = some b → b < w'.heap.size) : PenAt w' p base N nm st V (r' :: X) := by
  have hrb : ∀ b, r = some b → base ≤ b ∧ b < w.heap.size := fun b e => h.xs b (by simp [e])
  have hrv : ∀ b, r = some b → some b ∉ V.own := fun b e hm => dist_mem h.dist hm (by simp [e])
  have hst : ∀ b, b < w.heap.size → r ≠ some b → w'.heap[b]? = w.heap[b]? := fun b hb hne => hg.block b hb (fun e => hne e.symm)
  have ho : ∀ b, okE base w (V.own ++ r :: X) b → okE base w' (V.own ++ r' :: X) b ∧ w'.heap[b]? = w.heap[b]? := by
    rintro b ⟨h1, h2, h3⟩
    simp only [List.mem_append, List.mem_cons, not_or] at h3
    refine ⟨⟨h1, Nat.lt_of_lt_of_le h2 hg.size, ?_⟩, hst b h2 (fun e => h3.2.1 e.symm)⟩
    simp only [List.mem_append, List.mem_cons, not_or]
    refine ⟨h3.1, ?_, h3.2.2⟩
    rcases hr with hr | hr
    · rw [hr]; exact h3.2.1
    · rw [hr]; intro e; have := Option.some.inj e; omega
  have hv : ∀ g, some g ∈ V.own → w'.heap[g]? = w.heap[g]? := fun g hm => hst g (PV.own_lt h hm).2 (fun e => hrv g e hm)
  have hpb := h.pb
  refine ⟨h.blk.kept hg (fun hh => by have := (hrb p hh).1; omega), h.pb, Nat.le_trans h.bw hg.size, h.names.move (fun b h' => ⟨h', hst b (Nat.lt_trans h' h.blk.lt) (fun e => by have := (hrb b e).1; omega)⟩), owns_stay (fun g hg => hv g (by simp [PV.own, hg])) h.atoms,
    h.rows.stay RRo_moves (fun g hg => hv g (by simp [PV.own, hg])) ho, h.ctrs.stay RCt_moves (fun g hg => hv g (by simp [PV.own, hg])) ho, h.lists.stay RLi_moves (fun g hg => hv g (by simp [PV.own, hg])) ho, ?_, ?_⟩
  · rcases hr with hr | hr
    · rw [hr]; exact h.dist
    · rw [hr]
      have hd := h.dist
      rw [List.filterMap_append, List.pairwise_append] at hd ⊢
      have hX : ∀ b, b ∈ X.filterMap id → b < w.heap.size := fun b hb => by
        obtain ⟨o, ho, e⟩ := List.mem_filterMap.1 hb
        simp only [id] at e
        exact (h.xs b (by rw [← e]; exact List.mem_cons_of_mem _ ho)).2
      have hV : ∀ b, b ∈ V.own.filterMap id → b < w.heap.size := fun b hb => by
        obtain ⟨o, ho, e⟩ := List.mem_filterMap.1 hb
        simp only [id] at e
        exact (PV.own_lt h (by rw [← e]; exact ho)).2
      have hd2 : (X.filterMap id).Pairwise (· ≠ ·) := by
        have := hd.2.1
        cases r with
        | none => simpa using this
        | some g => rw [List.filterMap_cons] at this; exact (List.pairwise_cons.1 this).2
      refine ⟨hd.1, ?_, fun a ha b hb => ?_⟩
      · rw [List.filterMap_cons]
        exact List.pairwise_cons.2 ⟨fun b hb => by have := hX b hb; omega, hd2⟩
      · rw [List.filterMap_cons] at hb
        rcases List.mem_cons.1 hb with rfl | hb
        · have := hV a ha; omega
        · exact hd.2.2 a ha b (by cases r <;> simp [List.filterMap_cons, hb])
  · intro b hb
    rcases List.mem_cons.1 hb with e | hb
    · refine ⟨?_, hr2 b e.symm⟩
      rcases hr with hr | hr
      · exact (hrb b (hr ▸ e.symm)).1
      · have := Option.some.inj (hr ▸ e); have := h.bw; omega
    · exact ⟨(h.xs b (List.mem_cons_of_mem _ hb)).1, Nat.lt_of_lt_of_le (h.xs b (List.mem_cons_of_mem _ hb)).2 hg.size⟩
theorem PenAt.drop {w : World} {p base : Nat} {N : NmV} {nm : Nm} {st : PenS} {V : PV} {X : List (Option Nat)} {r : Option Nat} (h : PenAt w p base N nm st V (r :: X)) : PenAt w p base N nm st V X := by
  have ho : ∀ b, okE base w (V.own ++ r :: X) b → okE base w (V.own ++ X) b ∧ w.heap[b]? = w.heap[b]? := by
    rintro b ⟨h1, h2, h3⟩
    simp only [List.mem_append, List.mem_cons, not_or] at h3
    exact ⟨⟨h1, h2, by simp only [List.mem_append, not_or]; exact ⟨h3.1, h3.2.2⟩⟩, rfl⟩
  refine ⟨h.blk, h.pb, h.bw, h.names, h.atoms, h.rows.stay RRo_moves (fun _ _ => rfl) ho, h.ctrs.stay RCt_moves (fun _ _ => rfl) ho, h.lists.stay RLi_moves (fun _ _ => rfl) ho, ?_, fun b hb => h.xs b (List.mem_cons_of_mem _ hb)⟩
  have hd := h.dist
  cases r with
  | none => simpa [List.filterMap_append, List.filterMap_cons] using hd
  | some g => exact hd.sublist (by rw [List.filterMap_append, List.filterMap_append]; exact List.Sublist.append_left (by rw [List.filterMap_cons]; exact List.sublist_cons_self _ _) _)
theorem PenAt.push {w : World} {p base : Nat} {N : NmV} {nm : Nm} {st : PenS} {V : PV} {X : List (Option Nat)} (h : PenAt w p base N nm st V X) : PenAt w p base N nm st V (none :: X) := by
  have ho : ∀ b, okE base w (V.own ++ X) b → okE base w (V.own ++ none :: X) b ∧ w.heap[b]? = w.heap[b]? := by
    rintro b ⟨h1, h2, h3⟩
    simp only [List.mem_append, not_or] at h3
    exact ⟨⟨h1, h2, by simp only [List.mem_append, List.mem_cons, not_or]; exact ⟨h3.1, by simp, h3.2⟩⟩, rfl⟩
  refine ⟨h.blk, h.pb, h.bw, h.names, h.atoms, h.rows.stay RRo_moves (fun _ _ => rfl) ho, h.ctrs.stay RCt_moves (fun _ _ => rfl) ho, h.lists.stay RLi_moves (fun _ _ => rfl) ho, by simpa [List.filterMap_append, List.filterMap_cons] using h.dist, fun b hb => h.xs b (by simpa using hb)⟩
end

section
open Go.RowKit
set_option linter.unusedVariables false
set_option linter.unusedSimpArgs false
set_option maxRecDepth 100000 in
set_option maxHeartbeats 1000000 in
theorem right8_any (s : ByteArray) (w : World) (hs : s.size ≤ 140737488351232) : Calls Tryz.prog 50 #[.string s] w (Told (.bool (rightS s)) w) := by
  obtain ⟨cap, w1, hcv, hb1, hr⟩ := conv_readsB s w hs
  have hR := good_anyB _ cap (nmI s) w1 hr (nmI_u8 s) (by rw [nmI_len]; omega)
  rw [nmI_len] at hR
  unfold BoolPost at hR
  rw [show rightF (nmI s) = rightS s from rfl] at hR
  generalize rightS s = r at *
  clear hr
  go_enter Tryz.func50, Tryz.ntmps50
  go_wp2_with fail
  refine hR.mono ?_
  rintro e w2 ⟨rfl, hb2⟩
  go_wp2
  go_ret
  exact ⟨rfl, hb1.trans (hb2.mono hb1.size)⟩
set_option maxRecDepth 100000 in
set_option maxHeartbeats 1000000 in
theorem name8_any (s : ByteArray) (w : World) (hs : s.size ≤ 140737488351232) : Calls Tryz.prog 51 #[.string s] w (Told (.bool (nameS s)) w) := by
  have c1 := right8_any s w hs
  unfold nameS
  generalize hr : rightS s = r at *
  by_cases h0 : s.size = 0
  · have q : decide ((0 : Int) < (s.size : Int)) = false := decide_eq_false (by omega)
    rw [decide_eq_true h0, Bool.not_true, Bool.false_and]
    go_enter Tryz.func51, Tryz.ntmps51
    go_wp2
    go_ret
    exact ⟨rfl, Below.refl _ _⟩
  · have q : decide ((0 : Int) < (s.size : Int)) = true := decide_eq_true (by omega)
    rw [decide_eq_false h0, Bool.not_false, Bool.true_and]
    go_enter Tryz.func51, Tryz.ntmps51
    go_wp2_with (go_at_call 50; (with_reducible refine c1.mono ?_); rintro e w2 ⟨rfl, hb2⟩)
    go_ret
    exact ⟨rfl, hb2⟩
end

section
open Go.RowKit
set_option linter.unusedVariables false
set_option linter.unusedSimpArgs false
theorem fm_mem {G : List (Option Nat)} {b : Nat} : b ∈ G.filterMap id ↔ some b ∈ G := by
  constructor
  · intro h
    obtain ⟨o, ho, e⟩ := List.mem_filterMap.1 h
    simp only [id] at e
    exact e ▸ ho
  · intro h
    exact List.mem_filterMap.2 ⟨_, h, rfl⟩
theorem dist_ne : ∀ {G : List (Option Nat)}, (G.filterMap id).Pairwise (· ≠ ·) → ∀ {i j a b : Nat}, G[i]? = some (some a) → G[j]? = some (some b) → i ≠ j → a ≠ b
  | [], _, i, j, a, b, h, _, _ => by simp at h
  | o :: G, hd, i, j, a, b, h1, h2, hij => by
    have hd2 : (G.filterMap id).Pairwise (· ≠ ·) := by
      cases o with
      | none => simpa [List.filterMap_cons] using hd
      | some g => rw [List.filterMap_cons] at hd; exact (List.pairwise_cons.1 hd).2
    have hh : ∀ x y, o = some x → some y ∈ G → x ≠ y := fun x y e hy => by
      subst e
      rw [List.filterMap_cons] at hd
      exact (List.pairwise_cons.1 hd).1 y (fm_mem.2 hy)
    cases i with
    | zero =>
      cases j with
      | zero => exact absurd rfl hij
      | succ j =>
        simp at h1 h2
        exact hh a b h1 (List.mem_of_getElem? h2)
    | succ i =>
      cases j with
      | zero =>
        simp at h1 h2
        exact (hh b a h2 (List.mem_of_getElem? h1)).symm
      | succ j =>
        simp at h1 h2
        exact dist_ne hd2 h1 h2 (by omega)
theorem mem_set_or {G : List (Option Nat)} {i : Nat} {r' x : Option Nat} (h : x ∈ G.set i r') : x ∈ G ∨ x = r' := List.mem_or_eq_of_mem_set h
theorem dist_set : ∀ {G : List (Option Nat)}, (G.filterMap id).Pairwise (· ≠ ·) → ∀ {i N : Nat} {r r' : Option Nat}, G[i]? = some r → (r' = r ∨ r' = some N) → (∀ b, some b ∈ G → b < N) → ((G.set i r').filterMap id).Pairwise (· ≠ ·)
  | [], _, i, N, r, r', h, _, _ => by simp at h
  | o :: G, hd, i, N, r, r', h1, h2, hN => by
    have hd2 : (G.filterMap id).Pairwise (· ≠ ·) := by
      cases o with
      | none => simpa [List.filterMap_cons] using hd
      | some g => rw [List.filterMap_cons] at hd; exact (List.pairwise_cons.1 hd).2
    have hh : ∀ x y, o = some x → some y ∈ G → x ≠ y := fun x y e hy => by
      subst e
      rw [List.filterMap_cons] at hd
      exact (List.pairwise_cons.1 hd).1 y (fm_mem.2 hy)
    have hc : ∀ (o' : Option Nat) (G' : List (Option Nat)), (G'.filterMap id).Pairwise (· ≠ ·) → (∀ x y, o' = some x → some y ∈ G' → x ≠ y) → ((o' :: G').filterMap id).Pairwise (· ≠ ·) := fun o' G' h3 h4 => by
      cases o' with
      | none => simpa [List.filterMap_cons] using h3
      | some g => rw [List.filterMap_cons]; exact List.pairwise_cons.2 ⟨fun b hb => h4 g b rfl (fm_mem.1 hb), h3⟩
    cases i with
    | zero =>
      simp at h1
      subst h1
      show (((r' :: G)).filterMap id).Pairwise (· ≠ ·)
      refine hc _ _ hd2 (fun x y e hy => ?_)
      rcases h2 with h2 | h2
      · exact hh x y (h2 ▸ e) hy
      · have := Option.some.inj (h2 ▸ e)
        have := hN y (List.mem_cons_of_mem _ hy)
        omega
    | succ i =>
      simp at h1
      show ((o :: G.set i r').filterMap id).Pairwise (· ≠ ·)
      refine hc _ _ (dist_set hd2 h1 h2 (fun b hb => hN b (List.mem_cons_of_mem _ hb))) (fun x y e hy => ?_)
      rcases mem_set_or hy with hy | hy
      · exact hh x y e hy
      · rcases h2 with h2 | h2
        · exact hh x y e (by rw [hy, h2]; exact List.mem_of_getElem? h1)
        · have := Option.some.inj (h2 ▸ hy)
          have := hN x (by simp [e])
          omega
theorem okE_set {base : Nat} {w w' : World} {G : List (Option Nat)} {i : Nat} {r r' : Option Nat} (hi : G[i]? = some r) (hg : w.grownBy w' r) (hr : r' = r ∨ r' = some w.heap.size) {b : Nat} (hb : okE base w G b) : okE base w' (G.set i r') b ∧ w'.heap[b]? = w.heap[b]? := by
  obtain ⟨h1, h2, h3⟩ := hb
  refine ⟨⟨h1, Nat.lt_of_lt_of_le h2 hg.size, fun hm => ?_⟩, hg.block b h2 (fun e => h3 (by rw [e]; exact List.mem_of_getElem? hi))⟩
  rcases mem_set_or hm with hm | hm
  · exact h3 hm
  · rcases hr with hr | hr
    · exact h3 (by rw [hm, hr]; exact List.mem_of_getElem? hi)
    · have := Option.some.inj (hr ▸ hm); omega
theorem grown_both {w w8 : World} {p c : Nat} {r : Option Nat} {v : Value} (h : w.grownBy w8 r) : ∀ b, b < w.heap.size → b ≠ p → r ≠ some b → (w8.setCell ⟨p, c, none⟩ v).heap[b]? = w.heap[b]? := fun b hb hp hr =>
  ((grown_setCell w8 p c v).block b (Nat.lt_of_lt_of_le hb h.size) (fun e => hp (Option.some.inj e))).trans (h.block b hb (fun e => hr e.symm))
theorem PenAt.swap {w w8 : World} {p base c i : Nat} {N : NmV} {nm : Nm} {st : PenS} {V V' : PV} {X : List (Option Nat)} {r r' : Option Nat} {v8 : Value} (h : PenAt w p base N nm st V X) (hV : V'.own ++ X = (V.own ++ X).set i r') (hi : (V.own ++ X)[i]? = some r) (hi4 : i < 4) (hg : w.grownBy w8 r) (hr : r' = r ∨ r' = some w.heap.size) (hr2 : ∀ b, r' = some b → b < w8.heap.size) :
    (∀ b, okE base w (V.own ++ X) b → okE base (w8.setCell ⟨p, c, none⟩ v8) (V'.own ++ X) b ∧ (w8.setCell ⟨p, c, none⟩ v8).heap[b]? = w.heap[b]?) ∧
    (∀ j g, (V.own ++ X)[j]? = some (some g) → j ≠ i → (w8.setCell ⟨p, c, none⟩ v8).heap[g]? = w.heap[g]?) ∧
    NmAt (· < p) (w8.setCell ⟨p, c, none⟩ v8) N nm ∧ ((V'.own ++ X).filterMap id).Pairwise (· ≠ ·) ∧ (∀ b, some b ∈ X → base ≤ b ∧ b < (w8.setCell ⟨p, c, none⟩ v8).heap.size) ∧
    PG w (w8.setCell ⟨p, c, none⟩ v8) p V V' ∧ base ≤ (w8.setCell ⟨p, c, none⟩ v8).heap.size ∧ w8.heap[p]? = w.heap[p]? ∧ (∀ g, r' = some g → (w8.setCell ⟨p, c, none⟩ v8).heap[g]? = w8.heap[g]?) := by
  have hs := grown_setCell w8 p c v8
  have hpb := h.pb
  have hbw := h.bw
  have hplt := h.blk.lt
  have hrV : ∀ b, r = some b → some b ∈ V.own := fun b e => by
    subst e
    rw [List.getElem?_append_left (by simpa [PV.own] using hi4)] at hi
    exact List.mem_of_getElem? hi
  have hrb : ∀ b, r = some b → base ≤ b ∧ b < w.heap.size := fun b e => PV.own_lt h (hrV b e)
  have hall : ∀ b, some b ∈ V.own ++ X → base ≤ b ∧ b < w.heap.size := fun b hb => by
    rcases List.mem_append.1 hb with hb | hb
    · exact PV.own_lt h hb
    · exact h.xs b hb
  refine ⟨fun b hb => ?_, fun j g hj hji => ?_, ?_, ?_, fun b hb => ⟨(h.xs b hb).1, Nat.lt_of_lt_of_le (h.xs b hb).2 (Nat.le_trans hg.size hs.size)⟩, ⟨hs.os.trans hg.os, hs.tape.trans hg.tape, hs.output.trans hg.output, Nat.le_trans hg.size hs.size, ?_, ?_⟩, Nat.le_trans hbw (Nat.le_trans hg.size hs.size), ?_, ?_⟩
  · obtain ⟨h1, h2⟩ := okE_set hi hg hr hb
    rw [hV]
    exact ⟨⟨h1.1, Nat.lt_of_lt_of_le h1.2.1 hs.size, h1.2.2⟩, (hs.block b h1.2.1 (fun e => by have := Option.some.inj e; have := h1.1; omega)).trans h2⟩
  · have hl := hall g (List.mem_of_getElem? hj)
    exact grown_both hg g hl.2 (by omega) (fun e => dist_ne h.dist hj (e ▸ hi) hji rfl)
  · exact h.names.move (fun b hb => ⟨hb, grown_both hg b (by omega) (by omega) (fun e => by have := (hrb b e).1; omega)⟩)
  · rw [hV]
    exact dist_set h.dist hi hr (fun b hb => (hall b hb).2)
  · intro b hb hp hv
    exact grown_both hg b hb hp (fun e => hv (hrV b e))
  · intro b hb
    have hb2 : some b ∈ (V.own ++ X).set i r' := by rw [← hV]; exact List.mem_append_left _ hb
    have hfull : some b ∈ V'.own := hb
    rcases mem_set_or hb2 with hb3 | hb3
    · rcases List.mem_append.1 hb3 with hb4 | hb4
      · exact .inl hb4
      · have hdd : ((V'.own ++ X).filterMap id).Pairwise (· ≠ ·) := by rw [hV]; exact dist_set h.dist hi hr (fun b hb => (hall b hb).2)
        exact (dist_mem hdd hb hb4).elim
    · rcases hr with hr | hr
      · exact .inl (hrV b (by rw [← hr, hb3]))
      · right; have := Option.some.inj (hr ▸ hb3); omega
  · exact hg.block p hplt (fun e => by have := (hrb p e.symm).1; omega)
  · intro g e
    refine hs.block g (hr2 g e) (fun e2 => ?_)
    have := Option.some.inj e2
    rcases hr with hr | hr
    · have := (hrb g (hr ▸ e)).1; omega
    · have := Option.some.inj (hr ▸ e); omega
theorem owns_own {w : World} {base n sz : Nat} {T : TypeId} {v : Value} {xs : List Value} (h : w.ownsRow base T sz v n xs) {g : Nat} (hv : v.ownBlock = some g) : base ≤ g ∧ g < w.heap.size := by
  obtain ⟨_, ⟨rfl, _⟩ | ⟨g', cap, cur, rfl, hb, hc, _⟩⟩ := h
  · cases hv
  · obtain rfl := Option.some.inj hv
    exact ⟨hb, (Array.getElem?_eq_some_iff.1 hc).1⟩
theorem PenAt.atom {w w8 : World} {p base : Nat} {N : NmV} {nm : Nm} {st : PenS} {V : PV} {X : List (Option Nat)} {v8 : Value} {x : AtF} (h : PenAt w p base N nm st V X)
    (ho : w8.ownsRow base 156 7 v8 (st.atoms.length + 1) (st.atoms.flatMap atCells ++ atCells x)) (hg : w.grownBy w8 V.va.ownBlock) (hr : v8.ownBlock = V.va.ownBlock ∨ v8.ownBlock = some w.heap.size) :
    PenAt (w8.setCell ⟨p, 4, none⟩ v8) p base N nm { st with atoms := st.atoms ++ [x] } { V with va := v8 } X ∧ PG w (w8.setCell ⟨p, 4, none⟩ v8) p V { V with va := v8 } := by
  obtain ⟨h1, h2, h3, h4, h5, h6, h7, h8, h9⟩ := PenAt.swap (c := 4) (v8 := v8) (V' := { V with va := v8 }) (r' := v8.ownBlock) (i := 0) h rfl rfl (by omega) hg hr (fun b e => (owns_own ho e).2)
  have hB : Blk w8 p (nmCells nm N ++ [V.va, V.vr, V.vc, V.vl, .int .i64 (st.steps : Nat)]) 70 := h8.trans h.blk
  exact ⟨⟨hB.setCell 4 v8, h.pb, h7, h3, owns_stay h9 (by simpa using ho), h.rows.stay RRo_moves (fun g hg' => h2 1 g (by simp [PV.own, hg']) (by omega)) h1, h.ctrs.stay RCt_moves (fun g hg' => h2 2 g (by simp [PV.own, hg']) (by omega)) h1, h.lists.stay RLi_moves (fun g hg' => h2 3 g (by simp [PV.own, hg']) (by omega)) h1, h4, h5⟩, h6⟩
theorem PenAt.ctr {w w8 : World} {p base : Nat} {N : NmV} {nm : Nm} {st : PenS} {V : PV} {X : List (Option Nat)} {v8 : Value} {x : CtF} {ys : List (CtF × Option Addr × Nat × Nat)} {xa : Option Addr} {xn xc : Nat} (h : PenAt w p base N nm st V X)
    (hy1 : st.ctrs = ys.map (·.1)) (hy3 : ∀ y ∈ ys, RCt (okE base w (V.own ++ X)) w y.2.1 y.2.2.1 y.2.2.2 y.1) (hx : RCt (okE base w (V.own ++ X)) w xa xn xc x)
    (ho : w8.ownsRow base 62 3 v8 (st.ctrs.length + 1) ((ys.flatMap fun y => ctCells y.1 y.2.1 y.2.2.1 y.2.2.2) ++ ctCells x xa xn xc)) (hg : w.grownBy w8 V.vc.ownBlock) (hr : v8.ownBlock = V.vc.ownBlock ∨ v8.ownBlock = some w.heap.size) :
    PenAt (w8.setCell ⟨p, 6, none⟩ v8) p base N nm { st with ctrs := st.ctrs ++ [x] } { V with vc := v8 } X ∧ PG w (w8.setCell ⟨p, 6, none⟩ v8) p V { V with vc := v8 } := by
  obtain ⟨h1, h2, h3, h4, h5, h6, h7, h8, h9⟩ := PenAt.swap (c := 6) (v8 := v8) (V' := { V with vc := v8 }) (r' := v8.ownBlock) (i := 2) h rfl rfl (by omega) hg hr (fun b e => (owns_own ho e).2)
  have hB : Blk w8 p (nmCells nm N ++ [V.va, V.vr, V.vc, V.vl, .int .i64 (st.steps : Nat)]) 70 := h8.trans h.blk
  exact ⟨⟨hB.setCell 6 v8, h.pb, h7, h3, owns_stay (fun g hg' => h2 0 g (by simp [PV.own, hg']) (by omega)) h.atoms, h.rows.stay RRo_moves (fun g hg' => h2 1 g (by simp [PV.own, hg']) (by omega)) h1, RowK.snoc RCt_moves hy1 hy3 hx h1 (owns_stay h9 ho), h.lists.stay RLi_moves (fun g hg' => h2 3 g (by simp [PV.own, hg']) (by omega)) h1, h4, h5⟩, h6⟩
theorem PenAt.row {w w8 : World} {p base : Nat} {N : NmV} {nm : Nm} {st : PenS} {V : PV} {X : List (Option Nat)} {v8 : Value} {x : RowF} {ys : List (RowF × Option Addr × Nat × Nat)} {xa : Option Addr} {xn xc : Nat} (h : PenAt w p base N nm st V X)
    (hy1 : st.rows = ys.map (·.1)) (hy3 : ∀ y ∈ ys, RRo (okE base w (V.own ++ X)) w y.2.1 y.2.2.1 y.2.2.2 y.1) (hx : RRo (okE base w (V.own ++ X)) w xa xn xc x)
    (ho : w8.ownsRow base 78 3 v8 (st.rows.length + 1) ((ys.flatMap fun y => roCells y.1 y.2.1 y.2.2.1 y.2.2.2) ++ roCells x xa xn xc)) (hg : w.grownBy w8 V.vr.ownBlock) (hr : v8.ownBlock = V.vr.ownBlock ∨ v8.ownBlock = some w.heap.size) :
    PenAt (w8.setCell ⟨p, 5, none⟩ v8) p base N nm { st with rows := st.rows ++ [x] } { V with vr := v8 } X ∧ PG w (w8.setCell ⟨p, 5, none⟩ v8) p V { V with vr := v8 } := by
  obtain ⟨h1, h2, h3, h4, h5, h6, h7, h8, h9⟩ := PenAt.swap (c := 5) (v8 := v8) (V' := { V with vr := v8 }) (r' := v8.ownBlock) (i := 1) h rfl rfl (by omega) hg hr (fun b e => (owns_own ho e).2)
  have hB : Blk w8 p (nmCells nm N ++ [V.va, V.vr, V.vc, V.vl, .int .i64 (st.steps : Nat)]) 70 := h8.trans h.blk
  exact ⟨⟨hB.setCell 5 v8, h.pb, h7, h3, owns_stay (fun g hg' => h2 0 g (by simp [PV.own, hg']) (by omega)) h.atoms, RowK.snoc RRo_moves hy1 hy3 hx h1 (owns_stay h9 ho), h.ctrs.stay RCt_moves (fun g hg' => h2 2 g (by simp [PV.own, hg']) (by omega)) h1, h.lists.stay RLi_moves (fun g hg' => h2 3 g (by simp [PV.own, hg']) (by omega)) h1, h4, h5⟩, h6⟩
theorem PenAt.list {w w8 : World} {p base : Nat} {N : NmV} {nm : Nm} {st : PenS} {V : PV} {X : List (Option Nat)} {v8 : Value} {x : List Int} {ys : List (List Int × Option Addr × Nat × Nat)} {xa : Option Addr} {xn xc : Nat} (h : PenAt w p base N nm st V X)
    (hy1 : st.lists = ys.map (·.1)) (hy3 : ∀ y ∈ ys, RLi (okE base w (V.own ++ X)) w y.2.1 y.2.2.1 y.2.2.2 y.1) (hx : RLi (okE base w (V.own ++ X)) w xa xn xc x)
    (ho : w8.ownsRow base 27 1 v8 (st.lists.length + 1) ((ys.flatMap fun y => liCells y.1 y.2.1 y.2.2.1 y.2.2.2) ++ liCells x xa xn xc)) (hg : w.grownBy w8 V.vl.ownBlock) (hr : v8.ownBlock = V.vl.ownBlock ∨ v8.ownBlock = some w.heap.size) :
    PenAt (w8.setCell ⟨p, 7, none⟩ v8) p base N nm { st with lists := st.lists ++ [x] } { V with vl := v8 } X ∧ PG w (w8.setCell ⟨p, 7, none⟩ v8) p V { V with vl := v8 } := by
  obtain ⟨h1, h2, h3, h4, h5, h6, h7, h8, h9⟩ := PenAt.swap (c := 7) (v8 := v8) (V' := { V with vl := v8 }) (r' := v8.ownBlock) (i := 3) h rfl rfl (by omega) hg hr (fun b e => (owns_own ho e).2)
  have hB : Blk w8 p (nmCells nm N ++ [V.va, V.vr, V.vc, V.vl, .int .i64 (st.steps : Nat)]) 70 := h8.trans h.blk
  exact ⟨⟨hB.setCell 7 v8, h.pb, h7, h3, owns_stay (fun g hg' => h2 0 g (by simp [PV.own, hg']) (by omega)) h.atoms, h.rows.stay RRo_moves (fun g hg' => h2 1 g (by simp [PV.own, hg']) (by omega)) h1, h.ctrs.stay RCt_moves (fun g hg' => h2 2 g (by simp [PV.own, hg']) (by omega)) h1, RowK.snoc RLi_moves hy1 hy3 hx h1 (owns_stay h9 ho), h4, h5⟩, h6⟩
theorem PenAt.count {w : World} {p base : Nat} {N : NmV} {nm : Nm} {st : PenS} {V : PV} {X : List (Option Nat)} (h : PenAt w p base N nm st V X) (n : Nat) :
    PenAt (w.setCell ⟨p, 8, none⟩ (.int .i64 (n : Nat))) p base N nm { st with steps := n } V X ∧ PG w (w.setCell ⟨p, 8, none⟩ (.int .i64 (n : Nat))) p V V := by
  have hs := grown_setCell w p 8 (.int .i64 (n : Nat))
  have hpb := h.pb
  have ho : ∀ b, okE base w (V.own ++ X) b → okE base (w.setCell ⟨p, 8, none⟩ (.int .i64 (n : Nat))) (V.own ++ X) b ∧ (w.setCell ⟨p, 8, none⟩ (.int .i64 (n : Nat))).heap[b]? = w.heap[b]? := fun b hb => ⟨⟨hb.1, Nat.lt_of_lt_of_le hb.2.1 hs.size, hb.2.2⟩, hs.block b hb.2.1 (fun e => by have := Option.some.inj e; have := hb.1; omega)⟩
  have hv : ∀ g, some g ∈ V.own → (w.setCell ⟨p, 8, none⟩ (.int .i64 (n : Nat))).heap[g]? = w.heap[g]? := fun g hg => hs.block g (PV.own_lt h hg).2 (fun e => by have := Option.some.inj e; have := (PV.own_lt h hg).1; omega)
  exact ⟨⟨h.blk.setCell 8 _, h.pb, Nat.le_trans h.bw hs.size, h.names.move (fun b hb => ⟨hb, hs.block b (Nat.lt_trans hb h.blk.lt) (fun e => by have := Option.some.inj e; omega)⟩), owns_stay (fun g hg => hv g (by simp [PV.own, hg])) h.atoms,
    h.rows.stay RRo_moves (fun g hg => hv g (by simp [PV.own, hg])) ho, h.ctrs.stay RCt_moves (fun g hg => hv g (by simp [PV.own, hg])) ho, h.lists.stay RLi_moves (fun g hg => hv g (by simp [PV.own, hg])) ho, h.dist, fun b hx => ⟨(h.xs b hx).1, Nat.lt_of_lt_of_le (h.xs b hx).2 hs.size⟩⟩,
    PG.of_grown hs (fun g e => .inl (Option.some.inj e).symm)⟩
end
end Go.Proofs.YtcfhggdiccilaaaGreat
