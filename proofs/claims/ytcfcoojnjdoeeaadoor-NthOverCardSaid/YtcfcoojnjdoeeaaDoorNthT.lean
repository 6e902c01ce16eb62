/- A set that is told by a function: walks. -/
import Derived.Test.YtcfcoojnjdoeeaaDoorNthF
import Derived.Shelf.Abstract
namespace Go.Proofs.YtcfcoojnjdoeeaaDoor
open Go.RowKit

/-- A function value that tells truths of the numbers from 1 on, in every later world. -/
structure PredW (g : Nat) (lb : Array Value) (f : Nat → Bool) (N : Nat) (w : World) : Prop where
  enters : ∀ args w, (callFunc g args).run Tryd.prog w = .ok (.enter g args) w
  calls : ∀ (W : World) (n : Nat), Below w.heap.size w W → 1 ≤ n → n ≤ N → Calls Tryd.prog g (#[.int .i64 n] ++ lb) W (ToldB (.bool (f n)) W)
theorem PredW.later {g : Nat} {lb : Array Value} {f : Nat → Bool} {N : Nat} {w w1 : World} (h : PredW g lb f N w) (hb : Below w.heap.size w w1) : PredW g lb f N w1 :=
  ⟨h.enters, fun W n hW => h.calls W n (hb.trans (hW.mono hb.size))⟩

theorem TrydinfoBool : (Tryd.prog.info? 4).map (fun i => (i.zero, i.size, i.bytes)) = some (some (.bool false), 1, 1) := by kernel_rfl

/-- The row of a set lies in memory from a place on. -/
def FreshS (B : Nat) (v : Value) : Prop := ∀ (h : Value) (a : Addr) (n cap : Nat), v = .agg #[h, .slice (some a) n cap] → B ≤ a.block
theorem FreshS.mono {B C : Nat} {v : Value} (h : FreshS B v) (hC : C ≤ B) : FreshS C v := fun x a n cap e => Nat.le_trans hC (h x a n cap e)
theorem rdB_setCell {w : World} {a : Option Addr} {n cap : Nat} {f : Nat → Bool} (h : RdB w a n cap f) (x : Addr) (u : Value) (hx : ∀ b, a = some b → b.block ≠ x.block) : RdB (w.setCell x u) a n cap f := by
  obtain ⟨h1, h2, h3⟩ := h
  refine ⟨h1, h2, ?_⟩
  rcases h3 with h3 | ⟨b, off, rfl, hlt, hc⟩
  · exact .inl h3
  · refine .inr ⟨b, off, rfl, by simpa using hlt, fun i hi => ?_⟩
    rw [World.cell?_setCell_other _ _ _ _ (by intro e; first | exact hx _ rfl (congrArg Addr.block e) | exact hx _ rfl (congrArg Addr.block e).symm)]
    exact hc i hi
theorem isSet_setCell {w : World} {v : Value} {S : Nat → Bool} {h p : Nat} (s : IsSet w v S h p) (B : Nat) (x : Addr) (u : Value) (hf : FreshS B v) (hx : x.block < B) : IsSet (w.setCell x u) v S h p := by
  obtain ⟨h1, h2, a, n, cap, rfl, h3⟩ := s
  refine ⟨h1, h2, a, n, cap, rfl, ?_⟩
  rcases h3 with ⟨rfl, h3⟩ | h3
  · refine .inl ⟨rfl, rdB_setCell h3 x u fun b hb => ?_⟩
    subst hb
    have := hf _ _ _ _ rfl
    omega
  · exact .inr h3

/-- What told gives: head and row. -/
def ToldSet (f : Nat → Bool) (h m : Nat) (w : World) (e : Ending) (w' : World) : Prop :=
  ∃ a cap, e = .returned (.agg #[.int .i64 h, .slice a m cap]) ∧ RdB w' a m cap (fun i => f (i + 1)) ∧ FreshS (w.heap.size + 1) (.agg #[.int .i64 h, .slice a m cap]) ∧ Below w.heap.size w w'

set_option maxRecDepth 100000 in
set_option maxHeartbeats 2000000 in
theorem told_any (g : Nat) (lb : Array Value) (f : Nat → Bool) (h p : Nat) (hsz : h + p ≤ 4096) (w : World) (hP : PredW g lb f (h + p) w) :
    Calls Tryd.prog 49 #[.int .i64 h, .int .i64 p, .func (.func g) #[] lb] w (ToldSet f h (h + p) w) := by
  obtain ⟨m, hm⟩ : ∃ m, h + p = m := ⟨_, rfl⟩
  have hm' : (h : Int) + (p : Int) = (m : Int) := by omega
  rw [hm] at hsz hP ⊢
  have eg := hP.enters
  have HP := Lib.hid hP
  clear hP
  have hmk := run_make_row' (P := Tryd.prog) 26 4 (.bool false) 1 Tryd.underlying26 TrydinfoBool rfl .i64 .i64 m (by omega) (by omega)
  have HM := Lib.hid hm'
  have HM2 := Lib.hid hm
  clear hm hm'
  have hww : wrap64 ((h : Int) + (p : Int)) = m := by rw [HM.out]; unfold wrap64; omega
  go_enter Tryd.func49, Tryd.ntmps49
  go_wp2
  rw [hww]
  clear hww
  have R0 := World.rowIs_made (w.alloc (.cells #[.int .i64 0, .slice none 0 0] 28)) (.bool false) m 4
  go_loopw [8, 18] (fun _ i wr => ∃ k : Nat, k ≤ m ∧ i = .int .i64 k ∧ Below w.heap.size w wr ∧ wr.rowIs (w.heap.size + 1) 4 m (fun j => .bool (if j < k then f (j + 1) else false)) ∧
      Blk wr w.heap.size [.int .i64 0, .slice none 0 0] 28 ∧ Blk wr (w.heap.size + 1 + 1) [.int .i64 h, .slice (some ⟨w.heap.size + 1, 0, none⟩) m m] 28) (fun _ i _ => m - (intOf i).toNat)
  case atStart =>
    refine ⟨0, by omega, rfl, ((((Below.refl _ w).alloc (Nat.le_refl _) _).alloc (by simp) _).alloc (by simp; omega) _), ?_, ?_, ?_⟩
    · have R1 := R0.congr (g := fun j => Value.bool (if j < 0 then f (j + 1) else false)) (fun i hi => by rw [if_neg (by omega)])
      have R2 := R1.alloc (.cells #[.int .i64 h, .slice (some ⟨w.heap.size + 1, 0, none⟩) m m] 28)
      rw [show (w.alloc (.cells #[.int .i64 0, .slice none 0 0] 28)).heap.size = w.heap.size + 1 by simp] at R2
      exact R2
    · exact ((Blk.alloc [.int .i64 0, .slice none 0 0] 28).alloc_old _).alloc_old _
    · have R3 := Blk.alloc (w := (w.alloc (.cells #[.int .i64 0, .slice none 0 0] 28)).alloc (.cells (madeCells #[.bool false] m) 4)) [.int .i64 h, .slice (some ⟨w.heap.size + 1, 0, none⟩) m m] 28
      rw [show ((w.alloc (.cells #[.int .i64 0, .slice none 0 0] 28)).alloc (.cells (madeCells #[.bool false] m) 4)).heap.size = w.heap.size + 1 + 1 by simp] at R3
      exact R3
  case round =>
    obtain ⟨k, hk, rfl, hb, hr, hA, hO⟩ := hrel
    by_cases hlt : k < m
    · have hO1 := hO.cell 1 _ rfl
      have hrc := hr.cell hlt
      have hrf := hr.frozen k
      have hlt' : (k : Int) < (m : Int) := by omega
      have hsz2 := hb.size
      have hcall := fun W (h : Below w.heap.size w W) => HP.out.calls W (k + 1) h (by omega) (by omega)
      rw [show ((k + 1 : Nat) : Int) = IntKind.i64.wrap ((k : Int) + 1) by rw [IntWalk.i64_in _ (by omega)]; rfl] at hcall
      go_wp2
      have hOl := lt_of_block hO
      have hAO : Below w.heap.size w wr.drew := hb.drew
      have hO1' : wr.drew.cell? ⟨w.heap.size + 1 + 1, 1, none⟩ = some (.slice (some ⟨w.heap.size + 1, 0, none⟩) m m) := hO1
      have HR := Lib.hid (p := wr.drew.rowIs (w.heap.size + 1) 4 m (fun j => .bool (if j < k then f (j + 1) else false))) hr
      have HO := Lib.hid (p := Blk wr.drew (w.heap.size + 1 + 1) [.int .i64 h, .slice (some ⟨w.heap.size + 1, 0, none⟩) m m] 28) hO
      have HA := Lib.hid (p := Blk wr.drew w.heap.size [.int .i64 0, .slice none 0 0] 28) hA
      clear hr hO hA
      go_region_held3 (fun w' => w'.cell? ⟨w.heap.size + 1 + 1, 1, none⟩ = some (.slice (some ⟨w.heap.size + 1, 0, none⟩) m m) ∧ Below w.heap.size w w')
        (first | exact ⟨hO1', hAO⟩ | exact ⟨hO2, hAO.trans (hb2.mono hAO.size)⟩ | exact ⟨(World.cell?_setCell_other _ _ _ _ (by simp)).trans hO2, (hAO.trans (hb2.mono hAO.size)).setCell (p := ⟨w.heap.size + 1, k, none⟩) (by simp) _⟩)
        (first | (go_at_fn g; refine (hcall _ hAO).mono ?_; rintro e w' ⟨rfl, hb2⟩; have hO2 := (HO.out.later hb2 hOl).cell 1 _ rfl; have hr2 := HR.out.of_block (hb2.block _ HR.out.lt); have hrc2 := hr2.cell hlt; have hrf2 := hr2.frozen k))
      go_wp2
      go_roundw
      case rel =>
        refine ⟨k + 1, by omega, by go_num, ?_, ?_, ?_, ?_⟩
        · exact (hAO.trans (hb2.mono hAO.size)).setCell (by simp) _
        · refine (hr2.set k _).congr fun i hi => ?_
          by_cases hik : i = k
          · subst hik; rw [if_pos rfl, if_pos (by omega)]
          · rw [if_neg hik]
            by_cases hik2 : i < k
            · rw [if_pos hik2, if_pos (by omega)]
            · rw [if_neg hik2, if_neg (by omega)]
        · exact (HA.out.later hb2 (lt_of_block HA.out)).kept (grown_setCell _ (w.heap.size + 1) k _) (by simp)
        · exact (HO.out.later hb2 hOl).kept (grown_setCell _ (w.heap.size + 1) k _) (by simp)
      case measure => simp [intOf]; omega
    · obtain rfl : k = m := by omega
      have hO0 := hO.cell 0 _ rfl
      have hO1 := hO.cell 1 _ rfl
      have hA0 := hA.cell 0 _ rfl
      have hA1 := hA.cell 1 _ rfl
      have fA0 := hA.frozen 0
      have fA1 := hA.frozen 1
      have HR := Lib.hid hr
      have HO := Lib.hid hO
      have HA := Lib.hid hA
      clear hr hO hA
      go_wp2
      have hsz2 := hb.size
      refine bodyPost_ret (v := .agg #[.int .i64 h, .slice (some ⟨w.heap.size + 1, 0, none⟩) k k]) (by simp [results, Tryd.results49, go_sem, hA0, hA1]) rfl ⟨_, _, rfl, ?_, fun x a n cap e => (by simp at e; obtain ⟨-, rfl, -⟩ := e; exact Nat.le_refl _), ?_⟩
      · exact RdB.of_row ((((HR.out.congr (g := fun j => .bool (f (j + 1))) (fun i hi => by rw [if_pos hi]))).setOther (a := ⟨w.heap.size, 0, none⟩) (by simp) _).setOther (a := ⟨w.heap.size, 1, none⟩) (by simp) _) (by unfold maxLen; omega)
      · exact (hb.setCell (p := ⟨w.heap.size, 0, none⟩) (Nat.le_refl _) _).setCell (p := ⟨w.heap.size, 1, none⟩) (Nat.le_refl _) _

/-- What bounded and Of give: a set, and no error. -/
def GivesSet (S : Nat → Bool) (h p : Nat) (w : World) (e : Ending) (w' : World) : Prop := ∃ v, e = .returned v ∧ IsSet w' v S h p ∧ FreshS (w.heap.size + 1) v ∧ Below w.heap.size w w'
def GivesSetE (S : Nat → Bool) (h p : Nat) (w : World) (e : Ending) (w' : World) : Prop := ∃ v, e = .returned (.tuple #[v, .nilIface]) ∧ IsSet w' v S h p ∧ FreshS (w.heap.size + 1) v ∧ Below w.heap.size w w'

theorem ToldSet.gives {S : Nat → Bool} {h p : Nat} (L : LeastP S h p) (hsz : h + p ≤ 4096) {w w' : World} {e : Ending} (t : ToldSet S h (h + p) w e w') : GivesSet S h p w e w' := by
  obtain ⟨a, cap, rfl, hr, hf, hb⟩ := t
  exact ⟨_, rfl, ⟨L, hsz, a, h + p, cap, rfl, .inl ⟨rfl, hr⟩⟩, hf, hb⟩

set_option maxRecDepth 100000 in
set_option maxHeartbeats 2000000 in
theorem bounded_any (g : Nat) (lb : Array Value) (f : Nat → Bool) (h p : Nat) (L : LeastP f h p) (hsz : h + p ≤ 4096) (w : World) (hP : PredW g lb f (h + p) w) :
    Calls Tryd.prog 29 #[.int .i64 h, .int .i64 p, .func (.func g) #[] lb] w (GivesSetE f h p w) := by
  have hp := L.pos
  have B1 : Below w.heap.size w (w.alloc (.cells #[.int .i64 0, .slice none 0 0] 28)) := ((Below.refl _ w).alloc (Nat.le_refl _) _)
  have hA := Blk.alloc (w := w) [.int .i64 0, .slice none 0 0] 28
  have HP := Lib.hid (hP.later B1)
  have HL := Lib.hid L
  clear hP L
  have hw : wrap64 (4096 - (p : Int)) = 4096 - p := by unfold wrap64; omega
  have hcmp : ¬ (4096 - (p : Int) < (h : Int)) := by omega
  go_enter Tryd.func29, Tryd.ntmps29
  go_wp2_with (go_at_call 49; refine (told_any g lb f h p hsz _ HP.out).mono ?_; rintro e w' ⟨a, cap, rfl, hr, hf, hb⟩; have hA2 := hA.later hb (lt_of_block hA); have hA0 := hA2.cell 0 _ rfl; have hA1 := hA2.cell 1 _ rfl; have fA0 := hA2.frozen 0; have fA1 := hA2.frozen 1)
  have hsz0 : (w.alloc (.cells #[.int .i64 0, .slice none 0 0] 28)).heap.size = w.heap.size + 1 := by simp
  have hf' := hf.mono (C := w.heap.size + 1) (by omega)
  have hs := (isSet_setCell (isSet_setCell (⟨HL.out, hsz, a, h + p, cap, rfl, .inl ⟨rfl, hr⟩⟩ : IsSet w' _ f h p) _ ⟨w.heap.size, 0, none⟩ (.int .i64 h) hf' (by simp)) _ ⟨w.heap.size, 1, none⟩ (.slice a (h + p) cap) hf' (by simp))
  refine bodyPost_ret (v := .tuple #[.agg #[.int .i64 h, .slice a (h + p) cap], .nilIface]) (by simp [results, Tryd.results29, go_sem, hA0, hA1]) rfl ⟨_, rfl, hs, hf', ?_⟩
  exact ((B1.trans (hb.mono B1.size)).setCell (p := ⟨w.heap.size, 0, none⟩) (Nat.le_refl _) _).setCell (p := ⟨w.heap.size, 1, none⟩) (Nat.le_refl _) _
end Go.Proofs.YtcfcoojnjdoeeaaDoor
