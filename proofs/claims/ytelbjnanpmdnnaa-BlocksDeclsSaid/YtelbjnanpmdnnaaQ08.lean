/- Texts of mine in one: First Append Rune Text. -/
import Derived.Test.YtelbjnanpmdnnaaQ07
import Derived.Laws.AppendOwnNone
import Derived.Deep.RegionLaw
import Derived.Test.YtelbjnanpmdnnaaQ06
namespace Go.Proofs.Ytelbjnanpmdnnaa
section
open Go.RowKit
def fillF (zs : List Int) (c : Int) (size : Nat) : List Int := zs ++ List.replicate (size - zs.length) c
theorem Try.info5 : (Try.prog.info? 5).map (fun i => (i.zero, i.size, i.bytes)) = some (some (.int .u8 0), 1, 1) := by kernel_rfl
theorem cells_of_at {w : World} {k : IntKind} {b off : Nat} {zs : List Int} (h : At w k b off zs) :
    ∀ j u, (zs.map (Value.int k))[j]? = some u → w.cell? ((⟨b, off, none⟩ : Addr).add j) = some u := by
  intro j u hu
  rw [List.getElem?_map] at hu
  have hj : j < zs.length := by
    rcases Nat.lt_or_ge j zs.length with h' | h'
    · exact h'
    · rw [List.getElem?_eq_none h'] at hu; simp at hu
  rw [show (⟨b, off, none⟩ : Addr).add j = ⟨b, off + j, none⟩ from by simp [Addr.add], h.2 j hj]
  rw [List.getElem?_eq_getElem hj] at hu ⊢
  simpa using hu
theorem one_cells (k : IntKind) (zs : List Int) : ∀ u ∈ zs.map (Value.int k), u.oneCell' = true := by
  intro u hu
  obtain ⟨z, _, rfl⟩ := List.mem_map.1 hu
  rfl
theorem owns_shape {w : World} {base : Nat} {e : TypeId} {size : Nat} {v : Value} {n : Nat} {xs : List Value} (h : w.ownsRow base e size v n xs) : ∃ a cap, v = .slice a n cap := by
  rcases h.2 with ⟨rfl, h0⟩ | ⟨g, cap, cur, rfl, _⟩
  · exact ⟨none, 0, by rw [h0]⟩
  · exact ⟨_, _, rfl⟩
theorem owns_cast {w : World} {base : Nat} {e : TypeId} {k : IntKind} {v : Value} {n : Nat} {xs : List Value} (h : w.ownsRow base e 1 v n xs) (zs : List Int) (hx : xs = zs.map (Value.int k)) :
    w.ownsRow base e 1 v zs.length (zs.map (Value.int k)) := by
  subst hx
  have := h.1
  rw [List.length_map, Nat.mul_one] at this
  rw [this]; exact h
set_option maxRecDepth 100000 in
set_option maxHeartbeats 1000000 in
theorem filled_some (b off len cap : Nat) (zs : List Int) (c : Int) (size : Nat) (w : World) (hlen : zs.length = len) (h4 : size ≤ 4) (h5 : len ≤ 4) (hat : At w .u8 b off zs) :
    Calls Try.prog 79 #[.slice (some ⟨b, off, none⟩) len cap, .int .u8 c, .int .i64 size] w (BytesPost (fillF zs c size) w) := by
  obtain ⟨i0, hi, hz0, hz1, hz2⟩ := info_parts Try.info5
  have HL := Lib.hid hlen; clear hlen
  have own0 := World.ownsRow_made (base := w.heap.size) (e := 5) (size := 1) w #[] 0 (Nat.le_refl _) (by simp [maxLen]) (by simp)
  have ha1 : At (w.alloc (.cells #[] 5)) .u8 b off zs := hat.later ((Below.refl _ w).alloc (Nat.le_refl _) _) hat.1
  have hcl := cells_of_at ha1
  go_enter Try.func79, Try.ntmps79
  go_wp2_with (at_builtin; refine wpList_append_own _ rfl _ _ 22 rfl w.heap.size 5 i0 (.int .u8 0) 1 1 Try.underlying22 hi hz0 hz1 hz2 rfl (by decide) _ _ _ rfl own0 ⟨b, off, none⟩ len cap (zs.map (Value.int .u8)) rfl (by rw [List.length_map, HL.out, Nat.mul_one]) hcl (one_cells _ _) (by unfold maxLen; omega) (by omega) (by simp) ?_; intro v' w1 hown1 hgrow1 _)
  have hown2 := owns_cast (k := .u8) hown1 zs (by simp)
  have hb1 : Below w.heap.size w w1 := ((Below.refl _ w).alloc (Nat.le_refl _) _).grown hgrow1 (by simp) (by rintro _ ⟨⟩; exact Nat.le_refl _)
  go_loopw [7] (fun v wr => ∃ k : Nat, len + k ≤ max len size ∧ wr.ownsRow w.heap.size 5 1 v (zs ++ List.replicate k c).length ((zs ++ List.replicate k c).map (Value.int .u8)) ∧ Below w.heap.size w wr) (fun v _ => size - lenIn v)
  case atStart => exact ⟨0, by omega, by simpa using hown2, hb1⟩
  case round =>
    obtain ⟨k, hk, hown, hbl⟩ := hrel
    obtain ⟨a, cp, rfl⟩ := owns_shape hown
    have hll : Hid ((zs ++ List.replicate k c).length = len + k) := Lib.hid (by rw [List.length_append, List.length_replicate, HL.out])
    rw [hll.out] at hown ⊢
    by_cases hlt : len + k < size
    · have hlt' : ((len + k : Nat) : Int) < (size : Int) := by omega
      go_wp2_with (at_builtin; refine wpList_append_own _ rfl _ _ 22 rfl w.heap.size 5 i0 (.int .u8 0) 1 1 Try.underlying22 hi hz0 hz1 hz2 rfl (by decide) _ _ _ rfl (hown.alloc _) ⟨wr.heap.size, 0, none⟩ 1 1 [.int .u8 c] rfl rfl (cell_one_new _ _ _) (fun x hx => by simp at hx; subst hx; rfl) (by unfold maxLen; omega) (by omega) (by have := hbl.size; simp; omega) ?_; intro v3 w3 hown3 hgrow3 _)
      have hbl4 : Below w.heap.size w w3 := hbl.trans (Below.of_grown (grown_trans (World.grownBy_alloc wr _ _) hgrow3) hbl.size (fun j hj => (hown.lt j hj).1))
      have hown4 := owns_cast (k := .u8) hown3 (zs ++ List.replicate (k + 1) c) (by rw [List.replicate_succ']; simp)
      obtain ⟨a3, cp3, rfl⟩ := owns_shape hown3
      go_roundw
      case rel => exact ⟨k + 1, by omega, hown4, hbl4⟩
      case measure => simp [lenIn]; omega
    · have hge : (size : Int) ≤ ((len + k : Nat) : Int) := by omega
      go_wp2
      go_ret
      have he : zs ++ List.replicate k c = fillF zs c size := by unfold fillF; rw [HL.out, show size - len = k from by omega]
      have hown4 := owns_cast (k := .u8) hown (fillF zs c size) (by rw [he])
      obtain ⟨a', cp', hv, hrd⟩ := Reads.of_owns hown4
      exact ⟨a', cp', by rw [← hv]; rfl, hrd, hbl⟩
theorem fillF_len (zs : List Int) (c : Int) (size : Nat) (h : zs.length ≤ size) : (fillF zs c size).length = size := by
  unfold fillF; rw [List.length_append, List.length_replicate]; omega
theorem fillF_u8 (zs : List Int) (c : Int) (size : Nat) (h : U8 zs) (hc : 0 ≤ c ∧ c ≤ 255) : U8 (fillF zs c size) := by
  intro z hz
  rcases List.mem_append.1 hz with h1 | h1
  · exact h z h1
  · obtain ⟨_, rfl⟩ := List.mem_replicate.1 h1; exact hc
def goesTo (zs : List Int) (s : Nat) : Bool := wholeF (fillF zs 128 s) || wholeF (fillF zs 191 s)
def beginsF (zs : List Int) : Bool := (List.range 5).any fun s => decide (zs.length < s) && goesTo zs s
theorem beginsF_iff (zs : List Int) : beginsF zs = true ↔ ∃ s, s < 5 ∧ zs.length < s ∧ goesTo zs s = true := by
  unfold beginsF; simp [List.any_eq_true]
set_option maxRecDepth 100000 in
set_option maxHeartbeats 1000000 in
theorem begins_some (b off len cap : Nat) (zs : List Int) (w : World) (hlen : zs.length = len) (h1 : 1 ≤ len) (h4 : len ≤ 4) (hat : At w .u8 b off zs) (hz : U8 zs) :
    Calls Try.prog 62 #[.slice (some ⟨b, off, none⟩) len cap] w (BoolPost (beginsF zs) w) := by
  have HL := Lib.hid hlen; clear hlen
  go_enter Try.func62, Try.ntmps62
  go_wp2
  go_loopw [3] (fun i wr => ∃ s : Nat, len + 1 ≤ s ∧ s ≤ 5 ∧ i = .int .i64 s ∧ (∀ t, len < t → t < s → goesTo zs t = false) ∧ Below w.heap.size w wr) (fun i _ => 5 - (intOf i).toNat)
  case atStart => exact ⟨len + 1, by omega, by omega, by go_num, fun t h h' => by omega, Below.refl _ _⟩
  case round =>
    obtain ⟨s, hs1, hs2, rfl, hno, hbl⟩ := hrel
    have HN := Lib.hid hno; clear hno
    by_cases hlt : s ≤ 4
    · have hlt' : (s : Int) ≤ 4 := by omega
      have hat1 := hat.later hbl hat.1
      go_wp2_with fail
      refine (filled_some b off len cap zs 128 s wr HL.out hlt h4 hat1).mono ?_
      rintro e w1 ⟨a, cp, rfl, ⟨hq1, hq2, hq3⟩, hb1⟩
      have hfl := fillF_len zs 128 s (by rw [HL.out]; omega)
      obtain ⟨b1, off1, rfl, hat2⟩ := hq3.resolve_left (by intro h; rw [h] at hfl; simp at hfl; omega)
      have HF := Lib.hid hfl
      rw [hfl]
      clear hfl
      have hbl1 := hbl.trans (hb1.mono hbl.size)
      go_wp2_with fail
      refine (whole_some b1 off1 s cp (fillF zs 128 s) w1 HF.out (by omega) hlt hat2 (fillF_u8 _ _ _ hz (by omega))).mono ?_
      rintro e w2 ⟨rfl, hb2⟩
      have hbl2 := hbl1.trans (hb2.mono hbl1.size)
      have hat3 := hat.later hbl2 hat.1
      clear hat1 hat2 hb1 hb2 hbl1
      by_cases hw1 : wholeF (fillF zs 128 s) = true
      · have HW := Lib.hid hw1
        rw [hw1]
        clear hw1
        go_wp2
        go_ret
        exact ⟨ret_bool (by
          rw [eq_comm, beginsF_iff]; exact ⟨s, by omega, by rw [HL.out]; omega, by unfold goesTo; rw [HW.out]; rfl⟩), hbl2⟩
      · have hw1' : wholeF (fillF zs 128 s) = false := by simpa using hw1
        have HW := Lib.hid hw1'
        rw [hw1']
        clear hw1 hw1'
        go_wp2_with fail
        refine (filled_some b off len cap zs 191 s w2 HL.out hlt h4 hat3).mono ?_
        rintro e w3 ⟨a, cp, rfl, ⟨hq1, hq2, hq3⟩, hb3⟩
        have hfl := fillF_len zs 191 s (by rw [HL.out]; omega)
        obtain ⟨b1, off1, rfl, hat4⟩ := hq3.resolve_left (by intro h; rw [h] at hfl; simp at hfl; omega)
        have HF := Lib.hid hfl
        rw [hfl]
        clear hfl
        have hbl3 := hbl2.trans (hb3.mono hbl2.size)
        go_wp2_with fail
        refine (whole_some b1 off1 s cp (fillF zs 191 s) w3 HF.out (by omega) hlt hat4 (fillF_u8 _ _ _ hz (by omega))).mono ?_
        rintro e w4 ⟨rfl, hb4⟩
        have hbl4 := hbl3.trans (hb4.mono hbl3.size)
        clear hat4 hat3 hb3 hb4 hbl3
        by_cases hw2 : wholeF (fillF zs 191 s) = true
        · have HW2 := Lib.hid hw2
          rw [hw2]
          clear hw2
          go_wp2
          go_ret
          exact ⟨ret_bool (by
            rw [eq_comm, beginsF_iff]; exact ⟨s, by omega, by rw [HL.out]; omega, by unfold goesTo; rw [HW2.out]; simp⟩), hbl4⟩
        · have hw2' : wholeF (fillF zs 191 s) = false := by simpa using hw2
          have HW2 := Lib.hid hw2'
          rw [hw2']
          clear hw2 hw2'
          go_wp2
          go_roundw
          case rel =>
            refine ⟨s + 1, by omega, by omega, by go_num, fun t h h' => ?_, hbl4⟩
            rcases Nat.lt_or_ge t s with h2 | h2
            · exact HN.out t h h2
            · rw [show t = s from by omega, goesTo, HW.out, HW2.out]; rfl
          case measure => simp [intOf]; omega
    · have hge : 4 < (s : Int) := by omega
      go_wp2
      go_ret
      refine ⟨ret_bool ?_, hbl⟩
      show false = _
      rw [eq_comm, ← Bool.not_eq_true, beginsF_iff]
      rintro ⟨t, ht, ht1, ht2⟩
      rw [HN.out t (by rw [HL.out] at ht1; exact ht1) (by omega)] at ht2
      cases ht2
end

section
open Go.RowKit
theorem wpList_append_reads {P : Program} {w : World} {ops : Array Oper} {rest : List Oper} {o : Oper} {a : Act} {Q : Exit → Act → World → Prop} (hgd : o.guard = none) (s x : Operand) (t : TypeId)
    (ho : o.op = .call { callee := .builtin .append, args := #[s, x], argTypes := #[t, t] })
    (base : Nat) (e : TypeId) (i : TypeInfo) (k : IntKind) (bytes : Nat) (ht : P.underlying t = some (.slice e)) (hi : P.info? e = some i) (hz : i.zero = some (.int k 0))
    (hsize : i.size = 1) (hby : i.bytes = bytes)
    (v : Value) (n : Nat) (acc : List Int) (hs : a.eval s = v) (hown : w.ownsRow base e 1 v n (acc.map (Value.int k))) (hn : acc.length = n)
    (ad : Option Addr) (m c : Nat) (zs : List Int) (hm : zs.length = m) (hx : a.eval x = .slice ad m c) (hr : Reads w k ad c zs) (hnil : ad = none → c = 0)
    (h63 : n + m ≤ maxLen) (hbytes : (n + m) * bytes ≤ 140737488355328) (hbase : base ≤ w.heap.size)
    (h : ∀ v' w', w'.ownsRow base e 1 v' (acc ++ zs).length ((acc ++ zs).map (Value.int k)) → w.grownBy w' v.ownBlock → wpList P ops Q rest (a.put o.dst v') w') : wpList P ops Q (o :: rest) a w := by
  subst hn
  subst hm
  rcases ad with _ | ad
  · have hz0 : zs = [] := by
      rcases hr.2.2 with h0 | ⟨b, off, hb, _⟩
      · exact h0
      · cases hb
    subst hz0
    rw [hnil rfl] at hx
    exact wpList_append_own_none hgd s x t ho base e i 1 ht hi v acc.length _ hs hown hx (h v w (by simpa using hown) (World.grownBy.refl _ _))
  · refine wpList_append_own w hgd s x t ho base e i (.int k 0) 1 bytes ht hi hz hsize hby rfl (by decide) v acc.length _ hs hown ad zs.length c (zs.map (Value.int k)) hx (by simp) ?_ (one_cells _ _) h63 hbytes hbase (fun v' w' h1 h2 _ => h v' w' (by rw [List.length_append, List.map_append]; exact h1) h2)
    rcases hr.2.2 with h0 | ⟨b, off, hb, hat⟩
    · subst h0; intro j u hu; simp at hu
    · cases hb; exact cells_of_at hat
end

section
open Go.RowKit
def charOf (c : Int) : Int := if rightB c = true then c else 65533
theorem charOf_right (c : Int) : rightB (charOf c) = true := by
  unfold charOf; split
  · assumption
  · decide
theorem right_bd {c : Int} (h : rightB c = true) : 0 ≤ c ∧ c < 1114112 := by
  unfold rightB at h; rw [decide_eq_true_iff] at h; exact ⟨h.1, h.2.1⟩
def textF (zs : List Int) : List Int := zs.flatMap fun c => putF (charOf c)
theorem textF_snoc (zs : List Int) (k : Nat) (h : k < zs.length) : textF (zs.take (k + 1)) = textF (zs.take k) ++ putF (charOf (zs[k]?.getD 0)) := by
  unfold textF
  rw [List.take_add_one, List.getElem?_eq_getElem h, List.flatMap_append]
  simp
theorem putF_len (c : Int) : (putF c).length ≤ 4 := by
  unfold putF; (repeat' split) <;> simp
theorem textF_len (zs : List Int) : (textF zs).length ≤ 4 * zs.length := by
  unfold textF
  induction zs with
  | nil => simp
  | cons z zs ih => rw [List.flatMap_cons, List.length_append, List.length_cons]; have := putF_len (charOf z); omega
theorem textF_u8 (zs : List Int) : U8 (textF zs) := by
  intro z hz
  obtain ⟨c, _, hc⟩ := List.mem_flatMap.1 hz
  exact putF_u8 _ (charOf_right c) z hc
def NewPost (k : IntKind) (zs : List Int) (w : World) (e : Ending) (w' : World) : Prop :=
  ∃ a cap, e = .returned (.slice a zs.length cap) ∧ Reads w' k a cap zs ∧ Below w.heap.size w w' ∧ Fresh w.heap.size a ∧ (a = none → cap = 0)
theorem newPost_of_owns {w w' : World} {e : TypeId} {k : IntKind} {v : Value} {zs : List Int} (h : w'.ownsRow w.heap.size e 1 v zs.length (zs.map (Value.int k))) (hb : Below w.heap.size w w') : NewPost k zs w (.returned v) w' := by
  obtain ⟨a, cap, hv, hrd⟩ := Reads.of_owns h
  exact ⟨a, cap, by rw [hv], hrd, hb, Fresh.of_owns h hv, nil_of_owns h hv⟩
set_option maxRecDepth 100000 in
set_option maxHeartbeats 1000000 in
theorem refText_some (b off len cap : Nat) (zs : List Int) (w : World) (hlen : zs.length = len) (h1 : 1 ≤ len) (hl : len ≤ cap) (hcap : cap ≤ maxLen) (hat : At w .i64 b off zs) (hsm : len ≤ 100000) :
    Calls Try.prog 77 #[.slice (some ⟨b, off, none⟩) len cap] w (NewPost .u8 (textF zs) w) := by
  obtain ⟨i0, hi, hz0, hz1, hz2⟩ := info_parts Try.info5
  unfold maxLen at hcap
  have H0 := Lib.hid hlen; clear hlen
  have own0 := World.ownsRow_made (base := w.heap.size) (e := 5) (size := 1) w #[] 0 (Nat.le_refl _) (by simp [maxLen]) (by simp)
  go_enter Try.func77, Try.ntmps77
  go_wp2
  go_loopw [3, 4] (fun v i wr => ∃ k : Nat, k ≤ len ∧ i = .int .i64 k ∧ wr.ownsRow w.heap.size 5 1 v (textF (zs.take k)).length ((textF (zs.take k)).map (Value.int .u8)) ∧ Below w.heap.size w wr)
    (fun _ i _ => len - (intOf i).toNat)
  case atStart => exact ⟨0, by omega, rfl, own0, (Below.refl _ w).alloc (Nat.le_refl _) _⟩
  case round =>
    obtain ⟨k, hk, rfl, hown, hbl⟩ := hrel
    by_cases hlt : k < len
    · have hkz : k < zs.length := by rw [H0.out]; exact hlt
      have HT := Lib.hid (textF_snoc zs k hkz)
      have hll := textF_len (zs.take k)
      rw [List.length_take] at hll
      have hc := (hat.later hbl hat.1).2 k hkz
      clear hkz
      generalize zs[k]?.getD 0 = c at hc HT
      generalize textF (zs.take k) = acc at *
      by_cases hrc : rightB c = true
      · have hbd := right_bd hrc
        have HC : Hid (charOf c = c) := Lib.hid (by unfold charOf; rw [if_pos hrc])
        have hpl := putF_len c
        have HR := Lib.hid hrc; clear hrc
        go_wp2_with fail
        refine (refRight_any c wr).mono ?_
        rintro e w2 ⟨he, rfl⟩
        rw [HR.out] at he
        subst he
        go_wp2_with fail
        refine (put_any c wr hbd.1 hbd.2).mono ?_
        rintro e w3 ⟨a3, c3, rfl, hr3, hb3⟩
        have hown3 := owns_later hown hb3
        have hbl3 := hbl.trans (hb3.mono hbl.size)
        have hnil3 : a3 = none → c3 = 0 := fun h => by
          rcases hr3.2.2 with h' | ⟨_, _, h', _⟩
          · exact absurd h' (putF_ne c)
          · rw [h] at h'; cases h'
        go_wp2_with (at_builtin; refine wpList_append_reads rfl _ _ 22 rfl w.heap.size 5 i0 .u8 1 Try.underlying22 hi hz0 hz1 hz2 _ acc.length acc rfl hown3 rfl a3 (putF c).length c3 (putF c) rfl rfl hr3 hnil3 (by unfold maxLen; omega) (by omega) hbl3.size ?_; intro v' w4 hown4 hgrow4)
        have hbl4 : Below w.heap.size w w4 := hbl3.grown hgrow4 hbl3.size (fun j hj => (hown3.lt j hj).1)
        go_roundw
        case rel => exact ⟨k + 1, by omega, by go_num, by rw [HT.out, HC.out]; exact hown4, hbl4⟩
        case measure => simp [intOf]; omega
      · have hrf : rightB c = false := by simpa using hrc
        have HC : Hid (charOf c = 65533) := Lib.hid (by unfold charOf; rw [if_neg hrc])
        have hpl := putF_len 65533
        have HR := Lib.hid hrf; clear hrc hrf
        go_wp2_with fail
        refine (refRight_any c wr).mono ?_
        rintro e w2 ⟨he, rfl⟩
        rw [HR.out] at he
        subst he
        go_wp2_with fail
        refine (put_any 65533 wr (by omega) (by omega)).mono ?_
        rintro e w3 ⟨a3, c3, rfl, hr3, hb3⟩
        have hown3 := owns_later hown hb3
        have hbl3 := hbl.trans (hb3.mono hbl.size)
        have hnil3 : a3 = none → c3 = 0 := fun h => by
          rcases hr3.2.2 with h' | ⟨_, _, h', _⟩
          · exact absurd h' (putF_ne _)
          · rw [h] at h'; cases h'
        go_wp2_with (at_builtin; refine wpList_append_reads rfl _ _ 22 rfl w.heap.size 5 i0 .u8 1 Try.underlying22 hi hz0 hz1 hz2 _ acc.length acc rfl hown3 rfl a3 (putF 65533).length c3 (putF 65533) rfl rfl hr3 hnil3 (by unfold maxLen; omega) (by omega) hbl3.size ?_; intro v' w4 hown4 hgrow4)
        have hbl4 : Below w.heap.size w w4 := hbl3.grown hgrow4 hbl3.size (fun j hj => (hown3.lt j hj).1)
        go_roundw
        case rel => exact ⟨k + 1, by omega, by go_num, by rw [HT.out, HC.out]; exact hown4, hbl4⟩
        case measure => simp [intOf]; omega
    · have hkl : k = len := by omega
      go_wp2
      go_ret
      have he : textF (zs.take k) = textF zs := by rw [List.take_of_length_le (by rw [H0.out]; omega)]
      rw [he] at hown
      exact newPost_of_owns hown hbl
theorem refText_none (a : Option Addr) (cap : Nat) (w : World) : Calls Try.prog 77 #[.slice a 0 cap] w (NewPost .u8 (textF []) w) := by
  have own0 := World.ownsRow_made (base := w.heap.size) (e := 5) (size := 1) w #[] 0 (Nat.le_refl _) (by simp [maxLen]) (by simp)
  go_enter Try.func77, Try.ntmps77
  go_wp2
  refine wp_loop_rounds 1 ?_; rw [rounds_succ]
  go_wp2
  go_ret
  exact newPost_of_owns (zs := textF []) own0 ((Below.refl _ w).alloc (Nat.le_refl _) _)
theorem refText_any (a : Option Addr) (cap n : Nat) (zs : List Int) (w : World) (hn : zs.length = n) (hr : Reads w .i64 a cap zs) (hsm : n ≤ 100000) :
    Calls Try.prog 77 #[.slice a n cap] w (NewPost .u8 (textF zs) w) := by
  obtain ⟨h1, h2, h3⟩ := hr
  by_cases h0 : zs = []
  · subst h0; subst hn; exact refText_none _ cap w
  · obtain ⟨b, off, rfl, hat⟩ := h3.resolve_left h0
    exact refText_some b off n cap zs w hn (by rw [← hn]; exact List.length_pos_iff.2 h0) (by omega) h2 hat hsm
end
end Go.Proofs.Ytelbjnanpmdnnaa
