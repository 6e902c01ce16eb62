/- Texts of mine in one: AppFull. -/
import Derived.Lib.SlBytesConst
import Derived.Test.YtelbjnanpmdnnaaQ08
namespace Go.Proofs.Ytelbjnanpmdnnaa
section
open Go.RowKit
def Dst (w : World) (base : Nat) (e : TypeId) (k : IntKind) (v : Value) (acc : List Int) : Prop :=
  (∃ b off, v = .slice (some ⟨b, off, none⟩) acc.length acc.length ∧ At w k b off acc ∧ acc.length ≤ maxLen) ∨ w.ownsRow base e 1 v acc.length (acc.map (Value.int k))
theorem Dst.alloc {w : World} {base : Nat} {e : TypeId} {k : IntKind} {v : Value} {acc : List Int} (h : Dst w base e k v acc) (o : Obj) : Dst (w.alloc o) base e k v acc := by
  rcases h with ⟨b, off, hv, hat, hm⟩ | h
  · exact .inl ⟨b, off, hv, hat.later ((Below.refl _ w).alloc (Nat.le_refl _) o) hat.1, hm⟩
  · exact .inr (h.alloc o)
theorem Dst.later {w w' : World} {base : Nat} {e : TypeId} {k : IntKind} {v : Value} {acc : List Int} (h : Dst w base e k v acc) (hb : Below w.heap.size w w') : Dst w' base e k v acc := by
  rcases h with ⟨b, off, hv, hat, hm⟩ | h
  · exact .inl ⟨b, off, hv, hat.later hb hat.1, hm⟩
  · exact .inr (owns_later h hb)
theorem Dst.empty {w : World} {base : Nat} {e : TypeId} {k : IntKind} (g : Nat) (h : g < w.heap.size) : Dst w base e k (.slice (some ⟨g, 0, none⟩) 0 0) [] :=
  .inl ⟨g, 0, rfl, ⟨h, fun j hj => by simp at hj⟩, by simp⟩
theorem Dst.reads {w : World} {base : Nat} {e : TypeId} {k : IntKind} {v : Value} {acc : List Int} (h : Dst w base e k v acc) : ∃ a c, v = .slice a acc.length c ∧ Reads w k a c acc ∧ (a = none → c = 0) := by
  rcases h with ⟨b, off, hv, hat, hm⟩ | h
  · exact ⟨_, _, hv, ⟨Nat.le_refl _, hm, .inr ⟨b, off, rfl, hat⟩⟩, (fun h => by cases h)⟩
  · obtain ⟨a, c, hv, hrd⟩ := Reads.of_owns h
    refine ⟨a, c, hv, hrd, ?_⟩
    intro ha
    subst ha
    rcases h.2 with ⟨h1, _⟩ | ⟨g, cap', cur, h1, _⟩
    · rw [hv] at h1; injection h1
    · rw [hv] at h1; injection h1 with h2 _ _; cases h2
theorem run_append_dst {P : Program} (w : World) (base : Nat) (t ty : TypeId) (e : TypeId) (i : TypeInfo) (k : IntKind) (bytes : Nat) (ht : P.underlying t = some (.slice e)) (hi : P.info? e = some i) (hz : i.zero = some (.int k 0))
    (hsize : i.size = 1) (hby : i.bytes = bytes) (v : Value) (acc : List Int) (hd : Dst w base e k v acc)
    (ad : Option Addr) (m c : Nat) (zs : List Int) (hm : zs.length = m) (hr : Reads w k ad c zs) (hnil : ad = none → c = 0)
    (h63 : acc.length + m ≤ maxLen) (hbytes : (acc.length + m) * bytes ≤ 140737488355328) (hbase : base ≤ w.heap.size) :
    ∃ v' w', (Builtin.append_ #[t, t] ty #[v, .slice ad m c]).run P w = .ok v' w' ∧ Dst w' base e k v' (acc ++ zs) ∧ Below base w w' := by
  subst hm
  rcases hd with ⟨b, off, rfl, hat, hml⟩ | hown
  · by_cases h0 : zs = []
    · subst h0
      refine ⟨_, w, ?_, by rw [List.append_nil]; exact .inl ⟨b, off, rfl, hat, hml⟩, Below.refl _ _⟩
      rcases ad with _ | ad
      · rw [hnil rfl]
        simp [Builtin.append_, run_underlying ht, sizeOf, typeInfo, hi, Builtin.lenOf, Builtin.firstCells, storeCells]
      · have := run_append_room_cells (P := P) w t ty e i ht hi b off acc.length acc.length ad 0 c [] (by simp) (by intro j u hu; simp at hu) (by simp) (by omega) (by intro j hj; simp at hj) (by intro j hj; simp at hj)
        simpa [World.setCells] using this
    · obtain ⟨b2, off2, rfl, hat2⟩ := hr.2.2.resolve_left h0
      have hl := List.length_pos_iff.2 h0
      obtain ⟨v', w', hrun, hown, hgr⟩ := run_append_arg_grows (P := P) w t ty e i (.int k 0) 1 bytes ht hi hz hsize hby rfl (by decide) ⟨b, off, none⟩ acc.length acc.length (acc.map (Value.int k)) (by simp) (cells_of_at hat) ⟨b2, off2, none⟩ zs.length c (zs.map (Value.int k)) (by simp) (cells_of_at hat2) (by omega) h63 hbytes
      have hown2 := owns_cast (k := k) hown (acc ++ zs) (by simp)
      refine ⟨v', w', hrun, .inr ?_, Below.of_grown hgr hbase (by rintro _ ⟨⟩)⟩
      obtain ⟨g1, g2⟩ := hown2
      refine ⟨g1, ?_⟩
      rcases g2 with g2 | ⟨g, cap, cur, g3, g4, g5⟩
      · exact .inl g2
      · exact .inr ⟨g, cap, cur, g3, Nat.le_trans hbase g4, g5⟩
  · have hlt := hown.lt
    rcases ad with _ | ad
    · have hz0 : zs = [] := by
        rcases hr.2.2 with h0 | ⟨b, off, hb, _⟩
        · exact h0
        · cases hb
      subst hz0
      rw [hnil rfl]
      exact ⟨v, w, run_append_owned_none (P := P) (w := w) base t ty e i 1 ht hi v acc.length (acc.map (Value.int k)) hown, .inr (by simpa using hown), Below.refl _ _⟩
    · obtain ⟨v', w', hrun, r1, r2, _⟩ := run_append_own (P := P) w base t ty e i (.int k 0) 1 bytes ht hi hz hsize hby rfl (by decide) v acc.length (acc.map (Value.int k)) hown ad zs.length c (zs.map (Value.int k)) (by simp) (by
        rcases hr.2.2 with h0 | ⟨b, off, hb, hat⟩
        · subst h0; intro j u hu; simp at hu
        · cases hb; exact cells_of_at hat) (one_cells _ _) h63 hbytes hbase
      exact ⟨v', w', hrun, .inr (owns_cast r1 _ (by simp)), Below.of_grown r2 hbase (fun j hj => (hlt j hj).1)⟩
end
end Go.Proofs.Ytelbjnanpmdnnaa
