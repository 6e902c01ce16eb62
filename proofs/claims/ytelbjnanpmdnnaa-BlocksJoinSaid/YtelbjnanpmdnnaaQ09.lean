/- Texts of mine in one: Append Rune Text AppFull. -/
import Derived.Laws.AppendOwnNone
import Derived.Deep.RegionLaw
import Derived.Test.YtelbjnanpmdnnaaQ08
import Derived.Test.YtelbjnanpmdnnaaQ06
import Derived.Test.YtelbjnanpmdnnaaQ07
import Derived.Lib.SlBytesConst
namespace Go.Proofs.Ytelbjnanpmdnnaa
section
open Go.RowKit
theorem wpList_append_reads {P : Program} {w : World} {ops : Array Oper} {rest : List Oper} {o : Oper} {a : Act} {Q : Exit → Act → World → Prop} (hgd : o.guard = none) (s x : Operand) (t : TypeId)
    (ho : o.op = .call { callee := .builtin .append, args := #[s, x], argTypes := #[t, t] })
    (base : Nat) (e : TypeId) (i : TypeInfo) (k : IntKind) (bytes : Nat) (ht : P.underlying t = some (.slice e)) (hi : P.info? e = some i) (hz : i.zero = some (.int k 0))
    (hsize : i.size = 1) (hby : i.bytes = bytes)
    (v : Value) (n : Nat) (acc : List Int) (hs : a.eval s = v) (hown : w.ownsRow base e 1 v n (acc.map (Value.int k))) (hn : acc.length = n)
    (ad : Option Addr) (m c : Nat) (zs : List Int) (hm : zs.length = m) (hx : a.eval x = .slice ad m c) (hr : Reads w k ad c zs) (hnil : ad = none → c = 0)
    (h63 : n + m ≤ maxLen) (hbytes : (n + m) * bytes ≤ 140737488355328) (hbase : base ≤ w.heap.size)
    (h : ∀ v' w', w'.ownsRow base e 1 v' (acc ++ zs).length ((acc ++ zs).map (Value.int k)) → w.grownBy w' v.ownBlock → wpList P ops Q rest (a.put o.dst v') w') : wpList P ops Q (o :: rest) a w := by
  subst hn
  subst hm
  rcases ad with _ | ad
  · have hz0 : zs = [] := by
      rcases hr.2.2 with h0 | ⟨b, off, hb, _⟩
      · exact h0
      · cases hb
    subst hz0
    rw [hnil rfl] at hx
    exact wpList_append_own_none hgd s x t ho base e i 1 ht hi v acc.length _ hs hown hx (h v w (by simpa using hown) (World.grownBy.refl _ _))
  · refine wpList_append_own w hgd s x t ho base e i (.int k 0) 1 bytes ht hi hz hsize hby rfl (by decide) v acc.length _ hs hown ad zs.length c (zs.map (Value.int k)) hx (by simp) ?_ (one_cells _ _) h63 hbytes hbase (fun v' w' h1 h2 _ => h v' w' (by rw [List.length_append, List.map_append]; exact h1) h2)
    rcases hr.2.2 with h0 | ⟨b, off, hb, hat⟩
    · subst h0; intro j u hu; simp at hu
    · cases hb; exact cells_of_at hat
end

section
open Go.RowKit
def charOf (c : Int) : Int := if rightB c = true then c else 65533
theorem charOf_right (c : Int) : rightB (charOf c) = true := by
  unfold charOf; split
  · assumption
  · decide
theorem right_bd {c : Int} (h : rightB c = true) : 0 ≤ c ∧ c < 1114112 := by
  unfold rightB at h; rw [decide_eq_true_iff] at h; exact ⟨h.1, h.2.1⟩
def textF (zs : List Int) : List Int := zs.flatMap fun c => putF (charOf c)
theorem textF_snoc (zs : List Int) (k : Nat) (h : k < zs.length) : textF (zs.take (k + 1)) = textF (zs.take k) ++ putF (charOf (zs[k]?.getD 0)) := by
  unfold textF
  rw [List.take_add_one, List.getElem?_eq_getElem h, List.flatMap_append]
  simp
theorem putF_len (c : Int) : (putF c).length ≤ 4 := by
  unfold putF; (repeat' split) <;> simp
theorem textF_len (zs : List Int) : (textF zs).length ≤ 4 * zs.length := by
  unfold textF
  induction zs with
  | nil => simp
  | cons z zs ih => rw [List.flatMap_cons, List.length_append, List.length_cons]; have := putF_len (charOf z); omega
theorem textF_u8 (zs : List Int) : U8 (textF zs) := by
  intro z hz
  obtain ⟨c, _, hc⟩ := List.mem_flatMap.1 hz
  exact putF_u8 _ (charOf_right c) z hc
def NewPost (k : IntKind) (zs : List Int) (w : World) (e : Ending) (w' : World) : Prop :=
  ∃ a cap, e = .returned (.slice a zs.length cap) ∧ Reads w' k a cap zs ∧ Below w.heap.size w w' ∧ Fresh w.heap.size a ∧ (a = none → cap = 0)
theorem newPost_of_owns {w w' : World} {e : TypeId} {k : IntKind} {v : Value} {zs : List Int} (h : w'.ownsRow w.heap.size e 1 v zs.length (zs.map (Value.int k))) (hb : Below w.heap.size w w') : NewPost k zs w (.returned v) w' := by
  obtain ⟨a, cap, hv, hrd⟩ := Reads.of_owns h
  exact ⟨a, cap, by rw [hv], hrd, hb, Fresh.of_owns h hv, nil_of_owns h hv⟩
set_option maxRecDepth 100000 in
set_option maxHeartbeats 1000000 in
theorem refText_some (b off len cap : Nat) (zs : List Int) (w : World) (hlen : zs.length = len) (h1 : 1 ≤ len) (hl : len ≤ cap) (hcap : cap ≤ maxLen) (hat : At w .i64 b off zs) (hsm : len ≤ 100000) :
    Calls Try.prog 77 #[.slice (some ⟨b, off, none⟩) len cap] w (NewPost .u8 (textF zs) w) := by
  obtain ⟨i0, hi, hz0, hz1, hz2⟩ := info_parts Try.info5
  unfold maxLen at hcap
  have H0 := Lib.hid hlen; clear hlen
  have own0 := World.ownsRow_made (base := w.heap.size) (e := 5) (size := 1) w #[] 0 (Nat.le_refl _) (by simp [maxLen]) (by simp)
  go_enter Try.func77, Try.ntmps77
  go_wp2
  go_loopw [3, 4] (fun v i wr => ∃ k : Nat, k ≤ len ∧ i = .int .i64 k ∧ wr.ownsRow w.heap.size 5 1 v (textF (zs.take k)).length ((textF (zs.take k)).map (Value.int .u8)) ∧ Below w.heap.size w wr)
    (fun _ i _ => len - (intOf i).toNat)
  case atStart => exact ⟨0, by omega, rfl, own0, (Below.refl _ w).alloc (Nat.le_refl _) _⟩
  case round =>
    obtain ⟨k, hk, rfl, hown, hbl⟩ := hrel
    by_cases hlt : k < len
    · have hkz : k < zs.length := by rw [H0.out]; exact hlt
      have HT := Lib.hid (textF_snoc zs k hkz)
      have hll := textF_len (zs.take k)
      rw [List.length_take] at hll
      have hc := (hat.later hbl hat.1).2 k hkz
      clear hkz
      generalize zs[k]?.getD 0 = c at hc HT
      generalize textF (zs.take k) = acc at *
      by_cases hrc : rightB c = true
      · have hbd := right_bd hrc
        have HC : Hid (charOf c = c) := Lib.hid (by unfold charOf; rw [if_pos hrc])
        have hpl := putF_len c
        have HR := Lib.hid hrc; clear hrc
        go_wp2_with fail
        refine (refRight_any c wr).mono ?_
        rintro e w2 ⟨he, rfl⟩
        rw [HR.out] at he
        subst he
        go_wp2_with fail
        refine (put_any c wr hbd.1 hbd.2).mono ?_
        rintro e w3 ⟨a3, c3, rfl, hr3, hb3⟩
        have hown3 := owns_later hown hb3
        have hbl3 := hbl.trans (hb3.mono hbl.size)
        have hnil3 : a3 = none → c3 = 0 := fun h => by
          rcases hr3.2.2 with h' | ⟨_, _, h', _⟩
          · exact absurd h' (putF_ne c)
          · rw [h] at h'; cases h'
        go_wp2_with (at_builtin; refine wpList_append_reads rfl _ _ 22 rfl w.heap.size 5 i0 .u8 1 Try.underlying22 hi hz0 hz1 hz2 _ acc.length acc rfl hown3 rfl a3 (putF c).length c3 (putF c) rfl rfl hr3 hnil3 (by unfold maxLen; omega) (by omega) hbl3.size ?_; intro v' w4 hown4 hgrow4)
        have hbl4 : Below w.heap.size w w4 := hbl3.grown hgrow4 hbl3.size (fun j hj => (hown3.lt j hj).1)
        go_roundw
        case rel => exact ⟨k + 1, by omega, by go_num, by rw [HT.out, HC.out]; exact hown4, hbl4⟩
        case measure => simp [intOf]; omega
      · have hrf : rightB c = false := by simpa using hrc
        have HC : Hid (charOf c = 65533) := Lib.hid (by unfold charOf; rw [if_neg hrc])
        have hpl := putF_len 65533
        have HR := Lib.hid hrf; clear hrc hrf
        go_wp2_with fail
        refine (refRight_any c wr).mono ?_
        rintro e w2 ⟨he, rfl⟩
        rw [HR.out] at he
        subst he
        go_wp2_with fail
        refine (put_any 65533 wr (by omega) (by omega)).mono ?_
        rintro e w3 ⟨a3, c3, rfl, hr3, hb3⟩
        have hown3 := owns_later hown hb3
        have hbl3 := hbl.trans (hb3.mono hbl.size)
        have hnil3 : a3 = none → c3 = 0 := fun h => by
          rcases hr3.2.2 with h' | ⟨_, _, h', _⟩
          · exact absurd h' (putF_ne _)
          · rw [h] at h'; cases h'
        go_wp2_with (at_builtin; refine wpList_append_reads rfl _ _ 22 rfl w.heap.size 5 i0 .u8 1 Try.underlying22 hi hz0 hz1 hz2 _ acc.length acc rfl hown3 rfl a3 (putF 65533).length c3 (putF 65533) rfl rfl hr3 hnil3 (by unfold maxLen; omega) (by omega) hbl3.size ?_; intro v' w4 hown4 hgrow4)
        have hbl4 : Below w.heap.size w w4 := hbl3.grown hgrow4 hbl3.size (fun j hj => (hown3.lt j hj).1)
        go_roundw
        case rel => exact ⟨k + 1, by omega, by go_num, by rw [HT.out, HC.out]; exact hown4, hbl4⟩
        case measure => simp [intOf]; omega
    · have hkl : k = len := by omega
      go_wp2
      go_ret
      have he : textF (zs.take k) = textF zs := by rw [List.take_of_length_le (by rw [H0.out]; omega)]
      rw [he] at hown
      exact newPost_of_owns hown hbl
theorem refText_none (a : Option Addr) (cap : Nat) (w : World) : Calls Try.prog 77 #[.slice a 0 cap] w (NewPost .u8 (textF []) w) := by
  have own0 := World.ownsRow_made (base := w.heap.size) (e := 5) (size := 1) w #[] 0 (Nat.le_refl _) (by simp [maxLen]) (by simp)
  go_enter Try.func77, Try.ntmps77
  go_wp2
  refine wp_loop_rounds 1 ?_; rw [rounds_succ]
  go_wp2
  go_ret
  exact newPost_of_owns (zs := textF []) own0 ((Below.refl _ w).alloc (Nat.le_refl _) _)
theorem refText_any (a : Option Addr) (cap n : Nat) (zs : List Int) (w : World) (hn : zs.length = n) (hr : Reads w .i64 a cap zs) (hsm : n ≤ 100000) :
    Calls Try.prog 77 #[.slice a n cap] w (NewPost .u8 (textF zs) w) := by
  obtain ⟨h1, h2, h3⟩ := hr
  by_cases h0 : zs = []
  · subst h0; subst hn; exact refText_none _ cap w
  · obtain ⟨b, off, rfl, hat⟩ := h3.resolve_left h0
    exact refText_some b off n cap zs w hn (by rw [← hn]; exact List.length_pos_iff.2 h0) (by omega) h2 hat hsm
end

section
open Go.RowKit
def Dst (w : World) (base : Nat) (e : TypeId) (k : IntKind) (v : Value) (acc : List Int) : Prop :=
  (∃ b off, v = .slice (some ⟨b, off, none⟩) acc.length acc.length ∧ At w k b off acc ∧ acc.length ≤ maxLen) ∨ w.ownsRow base e 1 v acc.length (acc.map (Value.int k))
theorem Dst.alloc {w : World} {base : Nat} {e : TypeId} {k : IntKind} {v : Value} {acc : List Int} (h : Dst w base e k v acc) (o : Obj) : Dst (w.alloc o) base e k v acc := by
  rcases h with ⟨b, off, hv, hat, hm⟩ | h
  · exact .inl ⟨b, off, hv, hat.later ((Below.refl _ w).alloc (Nat.le_refl _) o) hat.1, hm⟩
  · exact .inr (h.alloc o)
theorem Dst.later {w w' : World} {base : Nat} {e : TypeId} {k : IntKind} {v : Value} {acc : List Int} (h : Dst w base e k v acc) (hb : Below w.heap.size w w') : Dst w' base e k v acc := by
  rcases h with ⟨b, off, hv, hat, hm⟩ | h
  · exact .inl ⟨b, off, hv, hat.later hb hat.1, hm⟩
  · exact .inr (owns_later h hb)
theorem Dst.empty {w : World} {base : Nat} {e : TypeId} {k : IntKind} (g : Nat) (h : g < w.heap.size) : Dst w base e k (.slice (some ⟨g, 0, none⟩) 0 0) [] :=
  .inl ⟨g, 0, rfl, ⟨h, fun j hj => by simp at hj⟩, by simp⟩
theorem Dst.reads {w : World} {base : Nat} {e : TypeId} {k : IntKind} {v : Value} {acc : List Int} (h : Dst w base e k v acc) : ∃ a c, v = .slice a acc.length c ∧ Reads w k a c acc ∧ (a = none → c = 0) := by
  rcases h with ⟨b, off, hv, hat, hm⟩ | h
  · exact ⟨_, _, hv, ⟨Nat.le_refl _, hm, .inr ⟨b, off, rfl, hat⟩⟩, (fun h => by cases h)⟩
  · obtain ⟨a, c, hv, hrd⟩ := Reads.of_owns h
    refine ⟨a, c, hv, hrd, ?_⟩
    intro ha
    subst ha
    rcases h.2 with ⟨h1, _⟩ | ⟨g, cap', cur, h1, _⟩
    · rw [hv] at h1; injection h1
    · rw [hv] at h1; injection h1 with h2 _ _; cases h2
theorem run_append_dst {P : Program} (w : World) (base : Nat) (t ty : TypeId) (e : TypeId) (i : TypeInfo) (k : IntKind) (bytes : Nat) (ht : P.underlying t = some (.slice e)) (hi : P.info? e = some i) (hz : i.zero = some (.int k 0))
    (hsize : i.size = 1) (hby : i.bytes = bytes) (v : Value) (acc : List Int) (hd : Dst w base e k v acc)
    (ad : Option Addr) (m c : Nat) (zs : List Int) (hm : zs.length = m) (hr : Reads w k ad c zs) (hnil : ad = none → c = 0)
    (h63 : acc.length + m ≤ maxLen) (hbytes : (acc.length + m) * bytes ≤ 140737488355328) (hbase : base ≤ w.heap.size) :
    ∃ v' w', (Builtin.append_ #[t, t] ty #[v, .slice ad m c]).run P w = .ok v' w' ∧ Dst w' base e k v' (acc ++ zs) ∧ Below base w w' := by
  subst hm
  rcases hd with ⟨b, off, rfl, hat, hml⟩ | hown
  · by_cases h0 : zs = []
    · subst h0
      refine ⟨_, w, ?_, by rw [List.append_nil]; exact .inl ⟨b, off, rfl, hat, hml⟩, Below.refl _ _⟩
      rcases ad with _ | ad
      · rw [hnil rfl]
        simp [Builtin.append_, run_underlying ht, sizeOf, typeInfo, hi, Builtin.lenOf, Builtin.firstCells, storeCells]
      · have := run_append_room_cells (P := P) w t ty e i ht hi b off acc.length acc.length ad 0 c [] (by simp) (by intro j u hu; simp at hu) (by simp) (by omega) (by intro j hj; simp at hj) (by intro j hj; simp at hj)
        simpa [World.setCells] using this
    · obtain ⟨b2, off2, rfl, hat2⟩ := hr.2.2.resolve_left h0
      have hl := List.length_pos_iff.2 h0
      obtain ⟨v', w', hrun, hown, hgr⟩ := run_append_arg_grows (P := P) w t ty e i (.int k 0) 1 bytes ht hi hz hsize hby rfl (by decide) ⟨b, off, none⟩ acc.length acc.length (acc.map (Value.int k)) (by simp) (cells_of_at hat) ⟨b2, off2, none⟩ zs.length c (zs.map (Value.int k)) (by simp) (cells_of_at hat2) (by omega) h63 hbytes
      have hown2 := owns_cast (k := k) hown (acc ++ zs) (by simp)
      refine ⟨v', w', hrun, .inr ?_, Below.of_grown hgr hbase (by rintro _ ⟨⟩)⟩
      obtain ⟨g1, g2⟩ := hown2
      refine ⟨g1, ?_⟩
      rcases g2 with g2 | ⟨g, cap, cur, g3, g4, g5⟩
      · exact .inl g2
      · exact .inr ⟨g, cap, cur, g3, Nat.le_trans hbase g4, g5⟩
  · have hlt := hown.lt
    rcases ad with _ | ad
    · have hz0 : zs = [] := by
        rcases hr.2.2 with h0 | ⟨b, off, hb, _⟩
        · exact h0
        · cases hb
      subst hz0
      rw [hnil rfl]
      exact ⟨v, w, run_append_owned_none (P := P) (w := w) base t ty e i 1 ht hi v acc.length (acc.map (Value.int k)) hown, .inr (by simpa using hown), Below.refl _ _⟩
    · obtain ⟨v', w', hrun, r1, r2, _⟩ := run_append_own (P := P) w base t ty e i (.int k 0) 1 bytes ht hi hz hsize hby rfl (by decide) v acc.length (acc.map (Value.int k)) hown ad zs.length c (zs.map (Value.int k)) (by simp) (by
        rcases hr.2.2 with h0 | ⟨b, off, hb, hat⟩
        · subst h0; intro j u hu; simp at hu
        · cases hb; exact cells_of_at hat) (one_cells _ _) h63 hbytes hbase
      exact ⟨v', w', hrun, .inr (owns_cast r1 _ (by simp)), Below.of_grown r2 hbase (fun j hj => (hlt j hj).1)⟩
end
end Go.Proofs.Ytelbjnanpmdnnaa
