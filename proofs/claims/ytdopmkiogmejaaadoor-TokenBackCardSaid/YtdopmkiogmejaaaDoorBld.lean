/- A text builder of the library that the call itself has made: what its methods do: walks. -/
import Derived.Test.YtdopmkiogmejaaaDoorText
import Derived.Lib.Builder
import Derived.Lib.FrozenHead
import Derived.Lib.AppendStr
namespace Go.Proofs.YtdopmkiogmejaaaDoor
open Go.RowKit

/-- A builder in a block of its own, with the bytes acc. -/
def Bld (w : World) (B b : Nat) (acc : List Int) : Prop :=
  ∃ (p : Option Addr) (v : Value), (p = none ∨ p = some ⟨b, 0, none⟩) ∧ w.heap[b]? = some (.cells #[.pointer p, v] 76 (0, 0)) ∧ w.ownsRow B 5 1 v acc.length (acc.map (Value.int .u8)) ∧ v.ownBlock ≠ some b

theorem Tryd.sizeBuilder : (Tryd.prog.info? 76).map (fun i => i.size) = some 2 := by kernel_rfl
theorem Tryd.liesBuilder : liesAt Tryd.prog Tryd.prog.depth 76 (2 / Tryd.prog.cellsOf 76) 0 76 1 = true := by kernel_rfl

set_option maxRecDepth 100000 in
set_option maxHeartbeats 1000000 in
theorem copy_used (b : Nat) (w : World) (h0 : w.cell? ⟨b, 0, none⟩ = some (.pointer (some ⟨b, 0, none⟩))) :
    Calls Tryd.prog 78 #[.pointer (some ⟨b, 0, none⟩)] w fun e w' => e = .returned (.tuple #[]) ∧ w' = w := by
  obtain ⟨j, hj, _⟩ := Option.map_eq_some_iff.1 Tryd.sizeBuilder
  go_enter Tryd.func78, Tryd.ntmps78
  go_wp2
  rw [Lib.run_neq_ptr_same w _ Tryd.underlying74 hj]
  go_wp2
  go_end0
  exact ⟨rfl, rfl⟩

set_option maxRecDepth 100000 in
set_option maxHeartbeats 1000000 in
theorem copy_fresh (b : Nat) (w : World) (h0 : w.cell? ⟨b, 0, none⟩ = some (.pointer none)) (hsh : w.shape? b = some (76, 2)) (hfz : w.frozen? ⟨b, 0, none⟩ = false) :
    Calls Tryd.prog 78 #[.pointer (some ⟨b, 0, none⟩)] w fun e w' => e = .returned (.tuple #[]) ∧ w' = w.setCell ⟨b, 0, none⟩ (.pointer (some ⟨b, 0, none⟩)) := by
  obtain ⟨j, hj, hjs⟩ := Option.map_eq_some_iff.1 Tryd.sizeBuilder
  go_enter Tryd.func78, Tryd.ntmps78
  go_wp2
  rw [Lib.run_to_unsafe w ⟨b, 0, none⟩ Tryd.underlying74 Tryd.underlying89 hj (by rw [hjs]; decide) hsh (Nat.zero_lt_succ 1)]
  simp only [Result.andThen]
  rw [Oper.upon_value]
  go_wp2
  rw [run_callFunc_extern Tryd.func82 (by kernel_rfl) (by kernel_rfl) (by kernel_rfl) (e := Extern.AbiNoEscape.same) (by kernel_rfl)]
  rw [Lib.run_noEscape]
  simp only [Result.andThen]
  rw [Oper.upon_value]
  go_wp2
  rw [Lib.run_from_unsafe w ⟨b, 0, none⟩ Tryd.underlying89 Tryd.underlying74 hj hsh Tryd.liesBuilder]
  simp only [Result.andThen]
  rw [Oper.upon_value]
  go_wp2
  go_end0
  exact ⟨rfl, rfl⟩

/-- A builder that has been looked at: its address is its own. -/
def BldU (w : World) (B b : Nat) (acc : List Int) : Prop :=
  ∃ v : Value, w.heap[b]? = some (.cells #[.pointer (some ⟨b, 0, none⟩), v] 76 (0, 0)) ∧ w.ownsRow B 5 1 v acc.length (acc.map (Value.int .u8)) ∧ v.ownBlock ≠ some b
theorem BldU.bld {w : World} {B b : Nat} {acc : List Int} (h : BldU w B b acc) : Bld w B b acc := ⟨_, _, .inr rfl, h.choose_spec⟩

theorem copy_any (B b : Nat) (acc : List Int) (w : World) (h : Bld w B b acc) :
    Calls Tryd.prog 78 #[.pointer (some ⟨b, 0, none⟩)] w fun e w' => e = .returned (.tuple #[]) ∧ BldU w' B b acc ∧ w.grownBy w' (some b) := by
  obtain ⟨p, v, hp, hh, hown, hne⟩ := h
  rcases hp with rfl | rfl
  · refine (copy_fresh b w (by simp [World.cell?, hh]) (by simp [World.shape?, hh]) (by simp [World.frozen?, hh])).mono ?_
    rintro e w' ⟨rfl, rfl⟩
    have hlt := lt_of_block hh
    refine ⟨rfl, ⟨v, ?_, ownsRow_setCell_other hown hne _, hne⟩, grown_setCell _ _ _ _⟩
    have h' : w.heap[b] = .cells #[.pointer none, v] 76 (0, 0) := by simpa [Array.getElem?_eq_getElem hlt] using hh
    show (w.heap.modify b _)[b]? = _
    rw [Array.getElem?_eq_getElem (by simpa using hlt), Array.getElem_modify_self, h']
    rfl
  · refine (copy_used b w (by simp [World.cell?, hh])).mono ?_
    rintro e w' ⟨rfl, rfl⟩
    exact ⟨rfl, ⟨v, hh, hown, hne⟩, World.grownBy.refl _ _⟩

/-- What stands in a builder behind a store of its new buffer. -/
theorem BldU.store {w w1 : World} {B b : Nat} {v v' : Value} {acc : List Int} (hh : w.heap[b]? = some (.cells #[.pointer (some ⟨b, 0, none⟩), v] 76 (0, 0))) (hne : v.ownBlock ≠ some b)
    (hg : w.grownBy w1 v.ownBlock) (hown : w1.ownsRow B 5 1 v' acc.length (acc.map (Value.int .u8))) (hne' : v'.ownBlock ≠ some b) : BldU (w1.setCell ⟨b, 1, none⟩ v') B b acc := by
  have hlt := lt_of_block hh
  have hh1 : w1.heap[b]? = some (.cells #[.pointer (some ⟨b, 0, none⟩), v] 76 (0, 0)) := (hg.block b hlt (fun e => hne e.symm)).trans hh
  have hlt1 := lt_of_block hh1
  refine ⟨v', ?_, ownsRow_setCell_other hown hne' _, hne'⟩
  have h' : w1.heap[b] = .cells #[.pointer (some ⟨b, 0, none⟩), v] 76 (0, 0) := by simpa [Array.getElem?_eq_getElem hlt1] using hh1
  show (w1.heap.modify b _)[b]? = _
  rw [Array.getElem?_eq_getElem (by simpa using hlt1), Array.getElem_modify_self, h']
  rfl

theorem own_ne {w : World} {base : Nat} {v : Value} {n b : Nat} {xs : List Value} {cs : Array Value} {m : Nat × Nat} (h : w.ownsRow base 5 1 v n xs) (hb : w.heap[b]? = some (.cells cs 76 m)) : v.ownBlock ≠ some b := by
  intro e
  rcases h.2 with ⟨rfl, _⟩ | ⟨g, cap, cur, rfl, _, hg, _⟩
  · simp [Value.ownBlock] at e
  · simp [Value.ownBlock] at e
    subst e
    rw [hb] at hg
    simp at hg

/-- A block of cells that are no bytes. -/
def NoBytes (w : World) (i : Nat) : Prop := ∃ cur T m, w.heap[i]? = some (.cells cur T m) ∧ T ≠ 5
/-- What lay below a place lies on, and whatever cells are no bytes, but for one block. -/
def But (B b : Nat) (w w' : World) : Prop := w'.os = w.os ∧ w'.tape = w.tape ∧ w'.output = w.output ∧ w.heap.size ≤ w'.heap.size ∧ ∀ i, (i < B ∨ NoBytes w i) → i ≠ b → w'.heap[i]? = w.heap[i]?
theorem But.trans {B b : Nat} {w w1 w2 : World} (h : But B b w w1) (k : But B b w1 w2) : But B b w w2 :=
  ⟨k.1.trans h.1, k.2.1.trans h.2.1, k.2.2.1.trans h.2.2.1, Nat.le_trans h.2.2.2.1 k.2.2.2.1, fun i hi hne => by
    have h1 := h.2.2.2.2 i hi hne
    exact (k.2.2.2.2 i (hi.imp id (fun ⟨cur, T, m, h2, h3⟩ => ⟨cur, T, m, h1.trans h2, h3⟩)) hne).trans h1⟩
theorem But.refl (B b : Nat) (w : World) : But B b w w := ⟨rfl, rfl, rfl, Nat.le_refl _, fun _ _ _ => rfl⟩
theorem own_typed {w : World} {base : Nat} {v : Value} {n : Nat} {xs : List Value} (h : w.ownsRow base 5 1 v n xs) : ∀ k, v.ownBlock = some k → base ≤ k ∧ ∃ cur, w.heap[k]? = some (.cells cur 5 (0, 0)) := by
  intro k hk
  rcases h.2 with ⟨rfl, _⟩ | ⟨g, cap, cur, rfl, hg, hh, _⟩
  · simp [Value.ownBlock] at hk
  · simp [Value.ownBlock] at hk
    subst hk
    exact ⟨hg, cur, hh⟩
theorem But.grown {B b : Nat} {w w' : World} {row : Option Nat} (h : w.grownBy w' row) (hB : B ≤ w.heap.size) (hr : ∀ k, row = some k → (B ≤ k ∧ ∃ cur, w.heap[k]? = some (.cells cur 5 (0, 0))) ∨ k = b) : But B b w w' :=
  ⟨h.os, h.tape, h.output, h.size, fun i hi hne => by
    refine h.block i ?_ (fun e => ?_)
    · rcases hi with hi | ⟨cur, T, m, h1, _⟩
      · exact Nat.lt_of_lt_of_le hi hB
      · exact (Array.getElem?_eq_some_iff.1 h1).1
    · rcases hr i e.symm with ⟨h1, cur, h2⟩ | h1
      · rcases hi with hi | ⟨cur', T, m, h3, h4⟩
        · omega
        · rw [h2] at h3; cases h3; exact h4 rfl
      · exact hne h1⟩
theorem But.below {B b C : Nat} {w w' : World} (h : But B b w w') (hC : C ≤ B) (hb : C ≤ b) : Below C w w' :=
  ⟨h.1, h.2.1, h.2.2.1, h.2.2.2.1, fun i hi => h.2.2.2.2 i (.inl (Nat.lt_of_lt_of_le hi hC)) (fun e => by omega)⟩
theorem But.of_below {B b : Nat} {w w' : World} (h : Below w.heap.size w w') (hB : B ≤ w.heap.size) : But B b w w' := ⟨h.os, h.tape, h.output, h.size, fun i hi _ => h.block i (by
    rcases hi with hi | ⟨cur, T, m, h1, _⟩
    · exact Nat.lt_of_lt_of_le hi hB
    · exact (Array.getElem?_eq_some_iff.1 h1).1)⟩
theorem Bld.later {w w' : World} {B b : Nat} {acc : List Int} (h : Bld w B b acc) (hb : Below w.heap.size w w') : Bld w' B b acc := by
  obtain ⟨p, v, hp, hh, hown, hne⟩ := h
  exact ⟨p, v, hp, (hb.block b (lt_of_block hh)).trans hh, owns_later hown hb, hne⟩
/-- What a builder's method that writes leaves. -/
def Wrote (B b : Nat) (acc : List Int) (w w' : World) : Prop := BldU w' B b acc ∧ But B b w w'

/-- A text's bytes as numbers. -/
def strI (s : ByteArray) : List Int := s.data.toList.map fun b => (b.toNat : Int)
theorem strI_cells (s : ByteArray) : Lib.strCells s = (strI s).map (Value.int .u8) := by
  unfold Lib.strCells strI; rw [List.map_map]; rfl
theorem strI_len (s : ByteArray) : (strI s).length = s.size := by unfold strI; rw [List.length_map, Array.length_toList]; rfl
theorem strI_u8 (s : ByteArray) : U8 (strI s) := by
  intro z hz
  obtain ⟨b, _, rfl⟩ := List.mem_map.1 hz
  have := b.toNat_lt
  omega

set_option maxRecDepth 100000 in
set_option maxHeartbeats 1000000 in
theorem writeString_any (B b : Nat) (acc : List Int) (s : ByteArray) (w : World) (h : Bld w B b acc) (hsm : acc.length ≤ 1000000) (hss : s.size ≤ 1000000) (hBw : B ≤ w.heap.size) :
    Calls Tryd.prog 72 #[.pointer (some ⟨b, 0, none⟩), .string s] w fun e w' => (∃ n : Int, e = .returned (.tuple #[.int .i64 n, .nilIface])) ∧ Wrote B b (acc ++ strI s) w w' := by
  obtain ⟨i0, hi, hz0, hz1, hz2⟩ := info_parts Tryd.info5
  go_enter Tryd.func72, Tryd.ntmps72
  go_wp2_with fail
  refine (copy_any B b acc w h).mono ?_
  rintro e w1 ⟨rfl, ⟨v, hh, hown, hne⟩, hg1⟩
  have c1 : w1.cell? ⟨b, 1, none⟩ = some v := by simp [World.cell?, hh]
  have hs1 := hg1.size
  have hlt := lt_of_block hh
  go_wp2_with (at_builtin; refine Lib.wpList_append_own_string w1 rfl _ _ 24 9 rfl B 5 i0 Tryd.underlying24 Tryd.underlying9 hi hz0 hz1 hz2 _ acc.length _ rfl hown s rfl (by unfold maxLen; omega) (by omega) (by omega) ?_; intro v' w2 hown2 hgrow2 _; obtain ⟨a', c', hv'⟩ := owns_shape hown2; subst hv'; have hh2 := (hgrow2.block b hlt (fun e => hne e.symm)).trans hh; have d1 : w2.cell? ⟨b, 1, none⟩ = some v := (by simp [World.cell?, hh2]); have f1 : w2.frozen? ⟨b, 1, none⟩ = false := (by simp [World.frozen?, hh2]))
  go_ret2
  have hown3 := owns_cast (k := .u8) hown2 (acc ++ strI s) (by rw [strI_cells, List.map_append])
  exact ⟨⟨_, rfl⟩, BldU.store hh2 hne (World.grownBy.refl _ _) hown3 (own_ne hown3 hh2), ((But.grown hg1 hBw (by rintro _ ⟨⟩; exact .inr rfl)).trans (But.grown hgrow2 (by omega) (fun j hj => .inl (own_typed hown j hj)))).trans (But.grown (grown_setCell _ b 1 _) (by have := hgrow2.size; omega) (by rintro _ ⟨⟩; exact .inr rfl))⟩
end Go.Proofs.YtdopmkiogmejaaaDoor
