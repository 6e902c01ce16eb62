/- Several texts of mine in one. -/
import Derived.Test.YtickcbmfboajiaaGreatDoorFA
import Derived.Deep.RegionWith
import Derived.Laws.AppendOwnNone
import Derived.Deep.RegionLaw
namespace Go.Proofs.YtickcbmfboajiaaGreatDoor
section
open Go.RowKit

def headOf (n : Nat) : Int := if n = 1 then 0 else if n = 2 then 0xc0 else if n = 3 then 0xe0 else 0xf0
def toldTo (zs : List Int) (h : Int) : Nat → Int
  | 0 => zs[0]?.getD 0 - h
  | k + 1 => 64 * toldTo zs h k + zs[k + 1]?.getD 0 - 128
def toldF (zs : List Int) : Int := toldTo zs (headOf zs.length) (zs.length - 1)

theorem headOf_bd (n : Nat) : 0 ≤ headOf n ∧ headOf n ≤ 0xf0 := by
  unfold headOf; split <;> (try split) <;> (try split) <;> omega

theorem toldTo_step (zs : List Int) (h : Int) (k : Nat) : toldTo zs h (k + 1) = 64 * toldTo zs h k + zs[k + 1]?.getD 0 - 128 := rfl

theorem toldTo_bd (zs : List Int) (h : Int) (hz : U8 zs) (hh : 0 ≤ h ∧ h ≤ 0xf0) (k : Nat) (hk : k ≤ 3) : -100000000 ≤ toldTo zs h k ∧ toldTo zs h k ≤ 100000000 := by
  have e0 := hz.at 0; have e1 := hz.at 1; have e2 := hz.at 2; have e3 := hz.at 3
  have s1 := toldTo_step zs h 0; have s2 := toldTo_step zs h 1; have s3 := toldTo_step zs h 2
  have s0 : toldTo zs h 0 = zs[0]?.getD 0 - h := rfl
  simp only [Nat.zero_add, Nat.reduceAdd] at s1 s2 s3
  match k, hk with
  | 0, _ => omega
  | 1, _ => omega
  | 2, _ => omega
  | 3, _ => omega

set_option maxRecDepth 100000 in
set_option maxHeartbeats 400000 in
theorem told_some (b off len cap : Nat) (zs : List Int) (w : World) (hlen : zs.length = len) (h1 : 1 ≤ len) (h4 : len ≤ 4) (hat : At w .u8 b off zs) (hz : U8 zs) :
    Calls Tryz.prog 45 #[.slice (some ⟨b, off, none⟩) len cap] w fun e w' => e = .returned (.int .i64 (toldF zs)) ∧ Below w.heap.size w w' := by
  have c0 := hat.2 0 (by omega)
  have z0 := hz.at 0
  have hw : (w.alloc (Obj.cells #[Value.int IntKind.i64 0, Value.int IntKind.i64 0, Value.int IntKind.i64 192, Value.int IntKind.i64 224, Value.int IntKind.i64 240] 3)).cell? ⟨w.heap.size, len, none⟩ = some (.int .i64 (headOf len)) := by
    match len, h1, h4 with
    | 1, _, _ => simp [headOf]
    | 2, _, _ => simp [headOf]
    | 3, _, _ => simp [headOf]
    | 4, _, _ => simp [headOf]
  have hb2 := headOf_bd len
  have hb := hat.1
  simp only [Nat.add_zero] at c0
  have HB := Lib.hid hlen; clear hlen
  go_enter Tryz.func45, Tryz.ntmps45
  go_wp2
  go_quiet (fail)
  go_wp2
  go_loopw [4, 5] (fun n i wr => ∃ k : Nat, k + 1 ≤ len ∧ i = .int .i64 (k + 1 : Nat) ∧ n = .int .i64 (toldTo zs (headOf len) k) ∧ Below w.heap.size w wr) (fun _ i _ => len - (intOf i).toNat)
  case atStart => exact ⟨0, by omega, by go_num, rfl, below_drewN ((Below.refl _ _).alloc (Nat.le_refl _) _) _⟩
  case round =>
    obtain ⟨k, hk, rfl, rfl, hbl⟩ := hrel
    have bd := toldTo_bd zs (headOf len) hz hb2 k (by omega)
    have hz1 := hz.at (k + 1)
    have hcell : (k : Int) + 1 < (len : Int) → wr.cell? ⟨b, off + (k + 1), none⟩ = some (.int .u8 (zs[k + 1]?.getD 0)) := fun h => (hbl.cell (by exact hb)).trans (hat.2 (k + 1) (by rw [HB.out]; omega))
    go_wp2
    · have ht := toldTo_step zs (headOf len) k
      go_roundw
      case rel => exact ⟨k + 1, by omega, by go_num, by rw [ht], hbl⟩
      case measure => simp [intOf]; omega
    · go_ret
      have : len - 1 = k := by omega
      exact ⟨ret_int (by rw [toldF, HB.out, this]), hbl⟩

theorem refRight_no (n : Int) (w : World) (h : rightB n = false) :
    Calls Tryz.prog 26 #[.int .i64 n] w fun e w' => e = .returned (.bool false) ∧ w' = w :=
  (refRight_any n w).mono fun _ _ ⟨he, hw⟩ => ⟨by rw [he, h], hw.symm⟩

/-- Are bytes a character's? -/
def wholeF (zs : List Int) : Bool := rightB (toldF zs) && decide (putF (toldF zs) = zs)

theorem strs_eq (xs ys : List Int) (hx : U8 xs) (hy : U8 ys) : ((strOfNums xs).toList == (strOfNums ys).toList) = decide (xs = ys) := by
  have inj : ∀ (xs ys : List Int), U8 xs → U8 ys → (xs.map fun n => UInt8.ofNat n.toNat) = (ys.map fun n => UInt8.ofNat n.toNat) → xs = ys := by
    intro xs
    induction xs with
    | nil => intro ys _ _ h; exact (List.map_eq_nil_iff.1 h.symm).symm
    | cons x xs ih =>
      intro ys hx hy h
      cases ys with
      | nil => simp at h
      | cons y ys =>
        simp only [List.map_cons, List.cons.injEq] at h
        obtain ⟨h1, h2⟩ := h
        have e := congrArg UInt8.toNat h1
        have b1 := hx x (by simp)
        have b2 := hy y (by simp)
        simp only [UInt8.toNat_ofNat'] at e
        rw [ih ys (fun z hz => hx z (by simp [hz])) (fun z hz => hy z (by simp [hz])) h2, show x = y from by omega]
  have tl : ∀ zs : List Int, (strOfNums zs).toList = zs.map fun n => UInt8.ofNat n.toNat := fun zs => by
    rw [← strOfNums_data]; exact ByteArray.toList_eq _
  rw [tl, tl, Bool.eq_iff_iff, beq_iff_eq, decide_eq_true_iff]
  exact ⟨fun h => inj xs ys hx hy h, fun h => by rw [h]⟩

theorem putF_u8 (n : Int) (h : rightB n = true) : U8 (putF n) := by
  unfold rightB at h
  rw [decide_eq_true_iff] at h
  intro z hz
  unfold putF at hz
  (repeat' split at hz) <;> simp at hz <;> omega

theorem putF_ne (n : Int) : putF n ≠ [] := by
  unfold putF; (repeat' split) <;> simp

set_option maxRecDepth 100000 in
set_option maxHeartbeats 1000000 in
theorem whole_some (b off len cap : Nat) (zs : List Int) (w : World) (hlen : zs.length = len) (h1 : 1 ≤ len) (h4 : len ≤ 4) (hat : At w .u8 b off zs) (hz : U8 zs) :
    Calls Tryz.prog 44 #[.slice (some ⟨b, off, none⟩) len cap] w (BoolPost (wholeF zs) w) := by
  by_cases hr : rightB (toldF zs) = true
  · have hr2 := hr
    unfold rightB at hr2
    rw [decide_eq_true_iff] at hr2
    go_enter Tryz.func44, Tryz.ntmps44
    go_wp2_with fail
    refine (told_some b off len cap zs w hlen h1 h4 hat hz).mono ?_
    rintro e w1 ⟨rfl, hb1⟩
    have hat1 := hat.later hb1 hat.1
    have HRR := Lib.hid hr
    have cvt := fun (wx : World) (hx : At wx .u8 b off zs) => run_convert_bytes_arg wx 22 5 Tryz.underlying22 Tryz.underlying5 b off len cap zs hlen (fun i hi => by rw [List.getD_eq_getElem?_getD]; exact hx.2 i (by rw [hlen]; exact hi)) 9 Tryz.underlying9
    have hat1d : At w1.drew .u8 b off zs := hat1
    have cv1 := cvt w1.drew hat1d
    have CV := Lib.hid cvt; clear cvt
    go_wp2_with fail
    go_region_with (first
      | (go_at_call 26; refine (refRight_any _ _).mono ?_; rintro e w' ⟨rfl, rfl⟩)
      | (go_at_call 94; refine (put_any _ _ hr2.1 hr2.2.1).mono ?_; rintro e w2 ⟨a, cp, rfl, ⟨hq1, hq2, hq3⟩, hb2⟩; obtain ⟨b2, off2, rfl, hat2⟩ := hq3.resolve_left (putF_ne _); have cv2 := run_convert_bytes_arg w2 22 5 Tryz.underlying22 Tryz.underlying5 b2 off2 _ cp (putF (toldF zs)) rfl (fun i hi => by rw [List.getD_eq_getElem?_getD]; exact hat2.2 i hi) 9 Tryz.underlying9; have cv3 := CV.out w2 (hat1d.later hb2 hat1d.1)))
    all_goals
      go_wp2
      go_ret
      exact ⟨ret_bool ((strs_eq _ _ (putF_u8 _ HRR.out) hz).trans (by rw [wholeF, HRR.out]; rfl)), hb1.drew.trans (hb2.mono hb1.size)⟩
  · have hrf : rightB (toldF zs) = false := by simpa using hr
    clear hr
    have HRR := Lib.hid hrf
    go_enter Tryz.func44, Tryz.ntmps44
    go_wp2_with fail
    refine (told_some b off len cap zs w hlen h1 h4 hat hz).mono ?_
    rintro e w1 ⟨rfl, hb1⟩
    go_wp2_with fail
    go_quiet ((go_at_call 26; exact Calls.quiet_of_same (refRight_no _ _ hrf)))
    go_wp2
    go_ret
    exact ⟨ret_bool (by rw [wholeF, HRR.out]; rfl), below_drewN hb1 _⟩
end

section
open Go.RowKit

/-- Bytes with more of one kind behind them. -/
def fillF (zs : List Int) (c : Int) (size : Nat) : List Int := zs ++ List.replicate (size - zs.length) c

theorem Tryz.info5 : (Tryz.prog.info? 5).map (fun i => (i.zero, i.size, i.bytes)) = some (some (.int .u8 0), 1, 1) := by kernel_rfl

theorem cells_of_at {w : World} {k : IntKind} {b off : Nat} {zs : List Int} (h : At w k b off zs) :
    ∀ j u, (zs.map (Value.int k))[j]? = some u → w.cell? ((⟨b, off, none⟩ : Addr).add j) = some u := by
  intro j u hu
  rw [List.getElem?_map] at hu
  have hj : j < zs.length := by
    rcases Nat.lt_or_ge j zs.length with h' | h'
    · exact h'
    · rw [List.getElem?_eq_none h'] at hu; simp at hu
  rw [show (⟨b, off, none⟩ : Addr).add j = ⟨b, off + j, none⟩ from by simp [Addr.add], h.2 j hj]
  rw [List.getElem?_eq_getElem hj] at hu ⊢
  simpa using hu
theorem one_cells (k : IntKind) (zs : List Int) : ∀ u ∈ zs.map (Value.int k), u.oneCell' = true := by
  intro u hu
  obtain ⟨z, _, rfl⟩ := List.mem_map.1 hu
  rfl

theorem owns_shape {w : World} {base : Nat} {e : TypeId} {size : Nat} {v : Value} {n : Nat} {xs : List Value} (h : w.ownsRow base e size v n xs) : ∃ a cap, v = .slice a n cap := by
  rcases h.2 with ⟨rfl, h0⟩ | ⟨g, cap, cur, rfl, _⟩
  · exact ⟨none, 0, by rw [h0]⟩
  · exact ⟨_, _, rfl⟩
/-- The same list, otherwise spelled. -/
theorem owns_cast {w : World} {base : Nat} {e : TypeId} {k : IntKind} {v : Value} {n : Nat} {xs : List Value} (h : w.ownsRow base e 1 v n xs) (zs : List Int) (hx : xs = zs.map (Value.int k)) :
    w.ownsRow base e 1 v zs.length (zs.map (Value.int k)) := by
  subst hx
  have := h.1
  rw [List.length_map, Nat.mul_one] at this
  rw [this]; exact h

set_option maxRecDepth 100000 in
set_option maxHeartbeats 1000000 in
theorem filled_some (b off len cap : Nat) (zs : List Int) (c : Int) (size : Nat) (w : World) (hlen : zs.length = len) (h4 : size ≤ 4) (h5 : len ≤ 4) (hat : At w .u8 b off zs) :
    Calls Tryz.prog 95 #[.slice (some ⟨b, off, none⟩) len cap, .int .u8 c, .int .i64 size] w (BytesPost (fillF zs c size) w) := by
  obtain ⟨i0, hi, hz0, hz1, hz2⟩ := info_parts Tryz.info5
  have HL := Lib.hid hlen; clear hlen
  have own0 := World.ownsRow_made (base := w.heap.size) (e := 5) (size := 1) w #[] 0 (Nat.le_refl _) (by simp [maxLen]) (by simp)
  have ha1 : At (w.alloc (.cells #[] 5)) .u8 b off zs := hat.later ((Below.refl _ w).alloc (Nat.le_refl _) _) hat.1
  have hcl := cells_of_at ha1
  go_enter Tryz.func95, Tryz.ntmps95
  go_wp2_with (at_builtin; refine wpList_append_own _ rfl _ _ 22 rfl w.heap.size 5 i0 (.int .u8 0) 1 1 Tryz.underlying22 hi hz0 hz1 hz2 rfl (by decide) _ _ _ rfl own0 ⟨b, off, none⟩ len cap (zs.map (Value.int .u8)) rfl (by rw [List.length_map, HL.out, Nat.mul_one]) hcl (one_cells _ _) (by unfold maxLen; omega) (by omega) (by simp) ?_; intro v' w1 hown1 hgrow1 _)
  have hown2 := owns_cast (k := .u8) hown1 zs (by simp)
  have hb1 : Below w.heap.size w w1 := ((Below.refl _ w).alloc (Nat.le_refl _) _).grown hgrow1 (by simp) (by rintro _ ⟨⟩; exact Nat.le_refl _)
  go_loopw [7] (fun v wr => ∃ k : Nat, len + k ≤ max len size ∧ wr.ownsRow w.heap.size 5 1 v (zs ++ List.replicate k c).length ((zs ++ List.replicate k c).map (Value.int .u8)) ∧ Below w.heap.size w wr) (fun v _ => size - lenIn v)
  case atStart => exact ⟨0, by omega, by simpa using hown2, hb1⟩
  case round =>
    obtain ⟨k, hk, hown, hbl⟩ := hrel
    obtain ⟨a, cp, rfl⟩ := owns_shape hown
    have hll : Hid ((zs ++ List.replicate k c).length = len + k) := Lib.hid (by rw [List.length_append, List.length_replicate, HL.out])
    rw [hll.out] at hown ⊢
    by_cases hlt : len + k < size
    · have hlt' : ((len + k : Nat) : Int) < (size : Int) := by omega
      go_wp2_with (at_builtin; refine wpList_append_own _ rfl _ _ 22 rfl w.heap.size 5 i0 (.int .u8 0) 1 1 Tryz.underlying22 hi hz0 hz1 hz2 rfl (by decide) _ _ _ rfl (hown.alloc _) ⟨wr.heap.size, 0, none⟩ 1 1 [.int .u8 c] rfl rfl (cell_one_new _ _ _) (fun x hx => by simp at hx; subst hx; rfl) (by unfold maxLen; omega) (by omega) (by have := hbl.size; simp; omega) ?_; intro v3 w3 hown3 hgrow3 _)
      have hbl4 : Below w.heap.size w w3 := hbl.trans (Below.of_grown (grown_trans (World.grownBy_alloc wr _ _) hgrow3) hbl.size (fun j hj => (hown.lt j hj).1))
      have hown4 := owns_cast (k := .u8) hown3 (zs ++ List.replicate (k + 1) c) (by rw [List.replicate_succ']; simp)
      obtain ⟨a3, cp3, rfl⟩ := owns_shape hown3
      go_roundw
      case rel => exact ⟨k + 1, by omega, hown4, hbl4⟩
      case measure => simp [lenIn]; omega
    · have hge : (size : Int) ≤ ((len + k : Nat) : Int) := by omega
      go_wp2
      go_ret
      have he : zs ++ List.replicate k c = fillF zs c size := by unfold fillF; rw [HL.out, show size - len = k from by omega]
      have hown4 := owns_cast (k := .u8) hown (fillF zs c size) (by rw [he])
      obtain ⟨a', cp', hv, hrd⟩ := Reads.of_owns hown4
      exact ⟨a', cp', by rw [← hv]; rfl, hrd, hbl⟩

theorem fillF_len (zs : List Int) (c : Int) (size : Nat) (h : zs.length ≤ size) : (fillF zs c size).length = size := by
  unfold fillF; rw [List.length_append, List.length_replicate]; omega
theorem fillF_u8 (zs : List Int) (c : Int) (size : Nat) (h : U8 zs) (hc : 0 ≤ c ∧ c ≤ 255) : U8 (fillF zs c size) := by
  intro z hz
  rcases List.mem_append.1 hz with h1 | h1
  · exact h z h1
  · obtain ⟨_, rfl⟩ := List.mem_replicate.1 h1; exact hc

/-- Are bytes, with as many behind them, a character's? -/
def goesTo (zs : List Int) (s : Nat) : Bool := wholeF (fillF zs 128 s) || wholeF (fillF zs 191 s)
/-- Are bytes the beginning of some character's, and not whole? -/
def beginsF (zs : List Int) : Bool := (List.range 5).any fun s => decide (zs.length < s) && goesTo zs s
theorem beginsF_iff (zs : List Int) : beginsF zs = true ↔ ∃ s, s < 5 ∧ zs.length < s ∧ goesTo zs s = true := by
  unfold beginsF; simp [List.any_eq_true]

set_option maxRecDepth 100000 in
set_option maxHeartbeats 1000000 in
theorem begins_some (b off len cap : Nat) (zs : List Int) (w : World) (hlen : zs.length = len) (h1 : 1 ≤ len) (h4 : len ≤ 4) (hat : At w .u8 b off zs) (hz : U8 zs) :
    Calls Tryz.prog 46 #[.slice (some ⟨b, off, none⟩) len cap] w (BoolPost (beginsF zs) w) := by
  have HL := Lib.hid hlen; clear hlen
  go_enter Tryz.func46, Tryz.ntmps46
  go_wp2
  go_loopw [3] (fun i wr => ∃ s : Nat, len + 1 ≤ s ∧ s ≤ 5 ∧ i = .int .i64 s ∧ (∀ t, len < t → t < s → goesTo zs t = false) ∧ Below w.heap.size w wr) (fun i _ => 5 - (intOf i).toNat)
  case atStart => exact ⟨len + 1, by omega, by omega, by go_num, fun t h h' => by omega, Below.refl _ _⟩
  case round =>
    obtain ⟨s, hs1, hs2, rfl, hno, hbl⟩ := hrel
    have HN := Lib.hid hno; clear hno
    by_cases hlt : s ≤ 4
    · have hlt' : (s : Int) ≤ 4 := by omega
      have hat1 := hat.later hbl hat.1
      go_wp2_with fail
      refine (filled_some b off len cap zs 128 s wr HL.out hlt h4 hat1).mono ?_
      rintro e w1 ⟨a, cp, rfl, ⟨hq1, hq2, hq3⟩, hb1⟩
      have hfl := fillF_len zs 128 s (by rw [HL.out]; omega)
      obtain ⟨b1, off1, rfl, hat2⟩ := hq3.resolve_left (by intro h; rw [h] at hfl; simp at hfl; omega)
      have HF := Lib.hid hfl
      rw [hfl]
      clear hfl
      have hbl1 := hbl.trans (hb1.mono hbl.size)
      go_wp2_with fail
      refine (whole_some b1 off1 s cp (fillF zs 128 s) w1 HF.out (by omega) hlt hat2 (fillF_u8 _ _ _ hz (by omega))).mono ?_
      rintro e w2 ⟨rfl, hb2⟩
      have hbl2 := hbl1.trans (hb2.mono hbl1.size)
      have hat3 := hat.later hbl2 hat.1
      clear hat1 hat2 hb1 hb2 hbl1
      by_cases hw1 : wholeF (fillF zs 128 s) = true
      · have HW := Lib.hid hw1
        rw [hw1]
        clear hw1
        go_wp2
        go_ret
        exact ⟨ret_bool (by
          rw [eq_comm, beginsF_iff]; exact ⟨s, by omega, by rw [HL.out]; omega, by unfold goesTo; rw [HW.out]; rfl⟩), hbl2⟩
      · have hw1' : wholeF (fillF zs 128 s) = false := by simpa using hw1
        have HW := Lib.hid hw1'
        rw [hw1']
        clear hw1 hw1'
        go_wp2_with fail
        refine (filled_some b off len cap zs 191 s w2 HL.out hlt h4 hat3).mono ?_
        rintro e w3 ⟨a, cp, rfl, ⟨hq1, hq2, hq3⟩, hb3⟩
        have hfl := fillF_len zs 191 s (by rw [HL.out]; omega)
        obtain ⟨b1, off1, rfl, hat4⟩ := hq3.resolve_left (by intro h; rw [h] at hfl; simp at hfl; omega)
        have HF := Lib.hid hfl
        rw [hfl]
        clear hfl
        have hbl3 := hbl2.trans (hb3.mono hbl2.size)
        go_wp2_with fail
        refine (whole_some b1 off1 s cp (fillF zs 191 s) w3 HF.out (by omega) hlt hat4 (fillF_u8 _ _ _ hz (by omega))).mono ?_
        rintro e w4 ⟨rfl, hb4⟩
        have hbl4 := hbl3.trans (hb4.mono hbl3.size)
        clear hat4 hat3 hb3 hb4 hbl3
        by_cases hw2 : wholeF (fillF zs 191 s) = true
        · have HW2 := Lib.hid hw2
          rw [hw2]
          clear hw2
          go_wp2
          go_ret
          exact ⟨ret_bool (by
            rw [eq_comm, beginsF_iff]; exact ⟨s, by omega, by rw [HL.out]; omega, by unfold goesTo; rw [HW2.out]; simp⟩), hbl4⟩
        · have hw2' : wholeF (fillF zs 191 s) = false := by simpa using hw2
          have HW2 := Lib.hid hw2'
          rw [hw2']
          clear hw2 hw2'
          go_wp2
          go_roundw
          case rel =>
            refine ⟨s + 1, by omega, by omega, by go_num, fun t h h' => ?_, hbl4⟩
            rcases Nat.lt_or_ge t s with h2 | h2
            · exact HN.out t h h2
            · rw [show t = s from by omega, goesTo, HW.out, HW2.out]; rfl
          case measure => simp [intOf]; omega
    · have hge : 4 < (s : Int) := by omega
      go_wp2
      go_ret
      refine ⟨ret_bool ?_, hbl⟩
      show false = _
      rw [eq_comm, ← Bool.not_eq_true, beginsF_iff]
      rintro ⟨t, ht, ht1, ht2⟩
      rw [HN.out t (by rw [HL.out] at ht1; exact ht1) (by omega)] at ht2
      cases ht2
end

section
open Go.RowKit

theorem row_none {k : IntKind} {w : World} {a : Option Addr} {len cap : Nat} {zs : List Int}
    (h : (a = none ∧ len = 0 ∧ cap = 0 ∧ zs = []) ∨
      ∃ x, a = some x ∧ len ≤ cap ∧ cap ≤ maxLen ∧ zs.length = cap ∧ (∀ i, i < zs.length → w.cell? (x.add i) = some (.int k (zs.getD i 0))) ∧ ∀ n ∈ zs, (Lit.int k n).wf = true) :
    a = none → cap = 0 := by
  intro ha
  rcases h with ⟨_, _, h, _⟩ | ⟨x, rfl, _⟩
  · exact h
  · cases ha

theorem wpList_append_reads {P : Program} {w : World} {ops : Array Oper} {rest : List Oper} {o : Oper} {a : Act} {Q : Exit → Act → World → Prop} (hgd : o.guard = none) (s x : Operand) (t : TypeId)
    (ho : o.op = .call { callee := .builtin .append, args := #[s, x], argTypes := #[t, t] })
    (base : Nat) (e : TypeId) (i : TypeInfo) (k : IntKind) (bytes : Nat) (ht : P.underlying t = some (.slice e)) (hi : P.info? e = some i) (hz : i.zero = some (.int k 0))
    (hsize : i.size = 1) (hby : i.bytes = bytes)
    (v : Value) (n : Nat) (acc : List Int) (hs : a.eval s = v) (hown : w.ownsRow base e 1 v n (acc.map (Value.int k))) (hn : acc.length = n)
    (ad : Option Addr) (m c : Nat) (zs : List Int) (hm : zs.length = m) (hx : a.eval x = .slice ad m c) (hr : Reads w k ad c zs) (hnil : ad = none → c = 0)
    (h63 : n + m ≤ maxLen) (hbytes : (n + m) * bytes ≤ 140737488355328) (hbase : base ≤ w.heap.size)
    (h : ∀ v' w', w'.ownsRow base e 1 v' (acc ++ zs).length ((acc ++ zs).map (Value.int k)) → w.grownBy w' v.ownBlock → wpList P ops Q rest (a.put o.dst v') w') : wpList P ops Q (o :: rest) a w := by
  subst hn
  subst hm
  rcases ad with _ | ad
  · have hz0 : zs = [] := by
      rcases hr.2.2 with h0 | ⟨b, off, hb, _⟩
      · exact h0
      · cases hb
    subst hz0
    rw [hnil rfl] at hx
    exact wpList_append_own_none hgd s x t ho base e i 1 ht hi v acc.length _ hs hown hx (h v w (by simpa using hown) (World.grownBy.refl _ _))
  · refine wpList_append_own w hgd s x t ho base e i (.int k 0) 1 bytes ht hi hz hsize hby rfl (by decide) v acc.length _ hs hown ad zs.length c (zs.map (Value.int k)) hx (by simp) ?_ (one_cells _ _) h63 hbytes hbase (fun v' w' h1 h2 _ => h v' w' (by rw [List.length_append, List.map_append]; exact h1) h2)
    rcases hr.2.2 with h0 | ⟨b, off, hb, hat⟩
    · subst h0; intro j u hu; simp at hu
    · cases hb; exact cells_of_at hat

/-- The same, as one step of a region that draws its order. -/
theorem step_append_reads {P : Program} {ops : Array Oper} {o : Oper} {a : Act} {w : World} {K : Act → World → Prop} {Q : Exit → Act → World → Prop} {E : Prop}
    (hg : o.guard = none) (s x : Operand) (t : TypeId) (ho : o.op = Op.call { callee := Callee.builtin Builtin.append, args := #[s, x], argTypes := #[t, t] })
    (base : Nat) (e : TypeId) (i : TypeInfo) (k : IntKind) (bytes : Nat) (ht : P.underlying t = some (.slice e)) (hi : P.info? e = some i) (hz : i.zero = some (.int k 0))
    (hsize : i.size = 1) (hby : i.bytes = bytes)
    (v : Value) (n : Nat) (acc : List Int) (hs : a.eval s = v) (hn : acc.length = n)
    (ad : Option Addr) (m c : Nat) (zs : List Int) (hm : zs.length = m) (hx : a.eval x = .slice ad m c) (hnil : ad = none → c = 0)
    (h63 : n + m ≤ maxLen) (hbytes : (n + m) * bytes ≤ 140737488355328)
    (hown : w.ownsRow base e 1 v n (acc.map (Value.int k))) (hr : Reads w k ad c zs) (hbase : base ≤ w.heap.size)
    (h : ∀ v' w', w'.ownsRow base e 1 v' (acc ++ zs).length ((acc ++ zs).map (Value.int k)) → w.grownBy w' v.ownBlock → K (a.put o.dst v') w') :
    if Region.wanted o (yielded ops a.tmps) = true then Oper.wp P o a w K Q else E := by
  have hw : Region.wanted o (yielded ops a.tmps) = true := by simp [Region.wanted, hg]
  rw [if_pos hw]
  subst hn
  subst hm
  rcases ad with _ | ad
  · have hz0 : zs = [] := by
      rcases hr.2.2 with h0 | ⟨b, off, hb, _⟩
      · exact h0
      · cases hb
    subst hz0
    rw [hnil rfl] at hx
    have hrun := run_append_owned_none (P := P) (w := w) base t o.type e i 1 ht hi v acc.length (acc.map (Value.int k)) hown
    unfold Oper.wp
    simp [execOp, ho, resolve, invoke, builtin, hs, hx, hrun, Result.andThen]
    exact h v w (by simpa using hown) (World.grownBy.refl _ _)
  · obtain ⟨v', w', hrun, r1, r2, _⟩ := run_append_own (P := P) w base t o.type e i (.int k 0) 1 bytes ht hi hz hsize hby rfl (by decide) v acc.length (acc.map (Value.int k)) hown ad zs.length c (zs.map (Value.int k)) (by simp) (by
      rcases hr.2.2 with h0 | ⟨b, off, hb, hat⟩
      · subst h0; intro j u hu; simp at hu
      · cases hb; exact cells_of_at hat) (one_cells _ _) h63 hbytes hbase
    unfold Oper.wp
    simp [execOp, ho, resolve, invoke, builtin, hs, hx, hrun, Result.andThen]
    exact h v' w' (by rw [List.length_append, List.map_append]; exact r1) r2

theorem owns_empty {w : World} {g base : Nat} {e : TypeId} (h : w.heap[g]? = some (.cells #[] e (0, 0))) (hb : base ≤ g) : w.ownsRow base e 1 (.slice (some ⟨g, 0, none⟩) 0 0) 0 [] :=
  ⟨rfl, .inr ⟨g, 0, #[], rfl, hb, h, Nat.le_refl _, by simp [maxLen], rfl, rfl⟩⟩
end

section
open Go.RowKit

/-- The post of a call that puts more behind an owned list of bytes. -/
def MorePost (T : TypeId) (k : IntKind) (base : Nat) (v : Value) (zs : List Int) (w : World) (e : Ending) (w' : World) : Prop :=
  ∃ v', e = .returned v' ∧ w'.ownsRow base T 1 v' zs.length (zs.map (Value.int k)) ∧ w.grownBy w' v.ownBlock

set_option maxRecDepth 100000 in
set_option maxHeartbeats 1000000 in
theorem rune_high (v : Value) (acc : List Int) (r : Int) (base : Nat) (w : World) (hown : w.ownsRow base 5 1 v acc.length (acc.map (Value.int .u8))) (hbase : base ≤ w.heap.size) (hsm : acc.length ≤ 1000000)
    (hr : (128 ≤ r ∧ r < 2048) ∨ (2048 ≤ r ∧ r < 55296) ∨ (57343 < r ∧ r < 65536) ∨ (65536 ≤ r ∧ r < 1114112)) :
    Calls Tryz.prog 172 #[v, .int .i32 r] w (MorePost 5 .u8 base v (acc ++ putF r) w) := by
  obtain ⟨i0, hi, hz0, hz1, hz2⟩ := info_parts Tryz.info5
  rcases hr with ⟨h1, h2⟩ | ⟨h1, h2⟩ | ⟨h1, h2⟩ | ⟨h1, h2⟩
  · have HP : Hid (putF r = [192 + r / 64, 128 + r % 64]) := Lib.hid (by unfold putF; rw [if_neg (by omega), if_pos (by omega)])
    go_enter Tryz.func172, Tryz.ntmps172
    go_wp2_with (at_builtin; refine wpList_append_reads rfl _ _ 22 rfl base 5 i0 .u8 1 Tryz.underlying22 hi hz0 hz1 hz2 _ acc.length acc rfl (hown.alloc _) rfl (some ⟨w.heap.size, 0, none⟩) 2 2 [192 + r / 64, 128 + r % 64] rfl rfl (reads_new w .u8 _ 5 2 rfl (by unfold maxLen; omega)) (fun h => by cases h) (by unfold maxLen; omega) (by omega) (by simp; omega) ?_; intro v' w2 hown2 hgrow2)
    go_ret
    exact ⟨v', rfl, by rw [HP.out]; exact hown2, grown_trans (World.grownBy_alloc w _ _) hgrow2⟩
  · have HP : Hid (putF r = [224 + r / 4096, 128 + r / 64 % 64, 128 + r % 64]) := Lib.hid (by unfold putF; rw [if_neg (by omega), if_neg (by omega), if_pos (by omega)])
    go_enter Tryz.func172, Tryz.ntmps172
    go_wp2_with (at_builtin; refine wpList_append_reads rfl _ _ 22 rfl base 5 i0 .u8 1 Tryz.underlying22 hi hz0 hz1 hz2 _ acc.length acc rfl (hown.alloc _) rfl (some ⟨w.heap.size, 0, none⟩) 3 3 [224 + r / 4096, 128 + r / 64 % 64, 128 + r % 64] rfl rfl (reads_new w .u8 _ 5 3 rfl (by unfold maxLen; omega)) (fun h => by cases h) (by unfold maxLen; omega) (by omega) (by simp; omega) ?_; intro v' w2 hown2 hgrow2)
    go_ret
    exact ⟨v', rfl, by rw [HP.out]; exact hown2, grown_trans (World.grownBy_alloc w _ _) hgrow2⟩
  · have HP : Hid (putF r = [224 + r / 4096, 128 + r / 64 % 64, 128 + r % 64]) := Lib.hid (by unfold putF; rw [if_neg (by omega), if_neg (by omega), if_pos (by omega)])
    go_enter Tryz.func172, Tryz.ntmps172
    go_wp2_with (at_builtin; refine wpList_append_reads rfl _ _ 22 rfl base 5 i0 .u8 1 Tryz.underlying22 hi hz0 hz1 hz2 _ acc.length acc rfl (hown.alloc _) rfl (some ⟨w.heap.size, 0, none⟩) 3 3 [224 + r / 4096, 128 + r / 64 % 64, 128 + r % 64] rfl rfl (reads_new w .u8 _ 5 3 rfl (by unfold maxLen; omega)) (fun h => by cases h) (by unfold maxLen; omega) (by omega) (by simp; omega) ?_; intro v' w2 hown2 hgrow2)
    go_ret
    exact ⟨v', rfl, by rw [HP.out]; exact hown2, grown_trans (World.grownBy_alloc w _ _) hgrow2⟩
  · have HP : Hid (putF r = [240 + r / 262144, 128 + r / 4096 % 64, 128 + r / 64 % 64, 128 + r % 64]) := Lib.hid (by unfold putF; rw [if_neg (by omega), if_neg (by omega), if_neg (by omega)])
    go_enter Tryz.func172, Tryz.ntmps172
    go_wp2_with (at_builtin; refine wpList_append_reads rfl _ _ 22 rfl base 5 i0 .u8 1 Tryz.underlying22 hi hz0 hz1 hz2 _ acc.length acc rfl (hown.alloc _) rfl (some ⟨w.heap.size, 0, none⟩) 4 4 [240 + r / 262144, 128 + r / 4096 % 64, 128 + r / 64 % 64, 128 + r % 64] rfl rfl (reads_new w .u8 _ 5 4 rfl (by unfold maxLen; omega)) (fun h => by cases h) (by unfold maxLen; omega) (by omega) (by simp; omega) ?_; intro v' w2 hown2 hgrow2)
    go_ret
    exact ⟨v', rfl, by rw [HP.out]; exact hown2, grown_trans (World.grownBy_alloc w _ _) hgrow2⟩

set_option maxRecDepth 100000 in
set_option maxHeartbeats 1000000 in
theorem rune_low (v : Value) (acc : List Int) (r : Int) (base : Nat) (w : World) (hown : w.ownsRow base 5 1 v acc.length (acc.map (Value.int .u8))) (hbase : base ≤ w.heap.size) (hsm : acc.length ≤ 1000000)
    (h1 : 0 ≤ r) (h2 : r < 128) :
    Calls Tryz.prog 161 #[v, .int .i32 r] w (MorePost 5 .u8 base v (acc ++ putF r) w) := by
  obtain ⟨i0, hi, hz0, hz1, hz2⟩ := info_parts Tryz.info5
  have HP : Hid (putF r = [r]) := Lib.hid (by unfold putF; rw [if_pos h2])
  go_enter Tryz.func161, Tryz.ntmps161
  go_wp2_with (at_builtin; refine wpList_append_reads rfl _ _ 22 rfl base 5 i0 .u8 1 Tryz.underlying22 hi hz0 hz1 hz2 _ acc.length acc rfl (hown.alloc _) rfl (some ⟨w.heap.size, 0, none⟩) 1 1 [r] rfl rfl (reads_new w .u8 _ 5 1 rfl (by unfold maxLen; omega)) (fun h => by cases h) (by unfold maxLen; omega) (by omega) (by simp; omega) ?_; intro v' w2 hown2 hgrow2)
  go_ret
  exact ⟨v', rfl, by rw [HP.out]; exact hown2, grown_trans (World.grownBy_alloc w _ _) hgrow2⟩

/-- AppendRune puts a character's bytes behind an owned list. -/
theorem rune_any (v : Value) (acc : List Int) (r : Int) (base : Nat) (w : World) (hown : w.ownsRow base 5 1 v acc.length (acc.map (Value.int .u8))) (hbase : base ≤ w.heap.size) (hsm : acc.length ≤ 1000000)
    (hr : rightB r = true) : Calls Tryz.prog 161 #[v, .int .i32 r] w (MorePost 5 .u8 base v (acc ++ putF r) w) := by
  unfold rightB at hr
  rw [decide_eq_true_iff] at hr
  by_cases h : r < 128
  · exact rune_low v acc r base w hown hbase hsm hr.1 h
  · obtain ⟨hr1, hr2, hr3⟩ := hr
    have hr3' : (128 ≤ r ∧ r < 2048) ∨ (2048 ≤ r ∧ r < 55296) ∨ (57343 < r ∧ r < 65536) ∨ (65536 ≤ r ∧ r < 1114112) := by omega
    have h128 : 127 < r := by omega
    clear hr3 h
    go_enter Tryz.func161, Tryz.ntmps161
    go_wp2_with fail
    refine (rune_high v acc r base w hown hbase hsm hr3').mono ?_
    rintro e w1 ⟨v', rfl, hown1, hg1⟩
    go_wp2
    go_ret
    exact ⟨v', rfl, hown1, hg1⟩
end

section
open Go.RowKit

/-- A number as a character. -/
def charOf (c : Int) : Int := if rightB c = true then c else 65533
theorem charOf_right (c : Int) : rightB (charOf c) = true := by
  unfold charOf; split
  · assumption
  · decide
theorem right_bd {c : Int} (h : rightB c = true) : 0 ≤ c ∧ c < 1114112 := by
  unfold rightB at h; rw [decide_eq_true_iff] at h; exact ⟨h.1, h.2.1⟩

set_option maxRecDepth 100000 in
set_option maxHeartbeats 400000 in
theorem character_any (c : Int) (w : World) :
    Calls Tryz.prog 38 #[.int .i64 c] w fun e w' => e = .returned (.int .i32 (charOf c)) ∧ w = w' := by
  by_cases h : rightB c = true
  · have HP : Hid (charOf c = c) := Lib.hid (by unfold charOf; rw [if_pos h])
    unfold rightB at h
    rw [decide_eq_true_iff] at h
    obtain ⟨h1, h2, h3⟩ := h
    rcases h3 with h3 | h3
    all_goals
      go_enter Tryz.func38, Tryz.ntmps38
      go_wp2
      go_ret
      exact ⟨ret_int HP.out.symm, rfl⟩
  · have HP : Hid (charOf c = 65533) := Lib.hid (by unfold charOf; rw [if_neg h])
    unfold rightB at h
    rw [decide_eq_true_iff] at h
    have h' : c < 0 ∨ 1114111 < c ∨ (55296 ≤ c ∧ c ≤ 57343) := by omega
    clear h
    rcases h' with h | h | ⟨h, h'⟩
    all_goals
      go_enter Tryz.func38, Tryz.ntmps38
      go_wp2
      all_goals
        go_ret
        exact ⟨ret_int HP.out.symm, rfl⟩

/-- Characters as bytes. -/
def textF (zs : List Int) : List Int := zs.flatMap fun c => putF (charOf c)
theorem textF_snoc (zs : List Int) (k : Nat) (h : k < zs.length) : textF (zs.take (k + 1)) = textF (zs.take k) ++ putF (charOf (zs[k]?.getD 0)) := by
  unfold textF
  rw [List.take_add_one, List.getElem?_eq_getElem h, List.flatMap_append]
  simp
theorem putF_len (c : Int) : (putF c).length ≤ 4 := by
  unfold putF; (repeat' split) <;> simp
theorem textF_len (zs : List Int) : (textF zs).length ≤ 4 * zs.length := by
  unfold textF
  induction zs with
  | nil => simp
  | cons z zs ih => rw [List.flatMap_cons, List.length_append, List.length_cons]; have := putF_len (charOf z); omega
theorem textF_u8 (zs : List Int) : U8 (textF zs) := by
  intro z hz
  obtain ⟨c, _, hc⟩ := List.mem_flatMap.1 hz
  exact putF_u8 _ (charOf_right c) z hc

/-- The post of a call that tells bytes in new memory. -/
def NewPost (k : IntKind) (zs : List Int) (w : World) (e : Ending) (w' : World) : Prop :=
  ∃ a cap, e = .returned (.slice a zs.length cap) ∧ Reads w' k a cap zs ∧ Below w.heap.size w w' ∧ Fresh w.heap.size a ∧ (a = none → cap = 0)

theorem newPost_of_owns {w w' : World} {e : TypeId} {k : IntKind} {v : Value} {zs : List Int} (h : w'.ownsRow w.heap.size e 1 v zs.length (zs.map (Value.int k))) (hb : Below w.heap.size w w') : NewPost k zs w (.returned v) w' := by
  obtain ⟨a, cap, hv, hrd⟩ := Reads.of_owns h
  exact ⟨a, cap, by rw [hv], hrd, hb, Fresh.of_owns h hv, nil_of_owns h hv⟩

set_option maxRecDepth 100000 in
set_option maxHeartbeats 1000000 in
theorem text_some (b off len cap : Nat) (zs : List Int) (w : World) (hlen : zs.length = len) (h1 : 1 ≤ len) (hl : len ≤ cap) (hcap : cap ≤ maxLen) (hat : At w .i64 b off zs) (hsm : len ≤ 100000) :
    Calls Tryz.prog 147 #[.slice (some ⟨b, off, none⟩) len cap] w (NewPost .u8 (textF zs) w) := by
  obtain ⟨i0, hi, hz0, hz1, hz2⟩ := info_parts Tryz.info5
  unfold maxLen at hcap
  have H0 := Lib.hid hlen; clear hlen
  go_enter Tryz.func147, Tryz.ntmps147
  go_wp2_with (refine wpList_make_own _ rfl _ _ 22 rfl w.heap.size 5 i0 (.int .u8 0) 1 Tryz.underlying22 hi hz0 hz1 .i64 .i64 _ len rfl rfl rfl (by rw [hz2]; omega) (by unfold maxLen; omega) (Nat.le_refl _) ?_; intro w1 hown1 hgrow1)
  go_loopw [3, 11] (fun v i wr => ∃ k : Nat, k ≤ len ∧ i = .int .i64 k ∧ wr.ownsRow w.heap.size 5 1 v (textF (zs.take k)).length ((textF (zs.take k)).map (Value.int .u8)) ∧ Below w.heap.size w wr)
    (fun _ i _ => len - (intOf i).toNat)
  case atStart => exact ⟨0, by omega, rfl, hown1, Below.of_grown hgrow1 (Nat.le_refl _) (by rintro _ ⟨⟩)⟩
  case round =>
    obtain ⟨k, hk, rfl, hown, hbl⟩ := hrel
    by_cases hlt : k < len
    · have hkz : k < zs.length := by rw [H0.out]; exact hlt
      have HT := Lib.hid (textF_snoc zs k hkz)
      have hll := textF_len (zs.take k)
      rw [List.length_take] at hll
      have hc := (hat.later hbl hat.1).2 k hkz
      clear hkz
      generalize zs[k]?.getD 0 = c at hc HT
      generalize textF (zs.take k) = acc at *
      have hrc := charOf_right c
      go_wp2_with fail
      refine (character_any c wr).mono ?_
      rintro e w2 ⟨rfl, rfl⟩
      go_wp2_with fail
      refine (rune_any _ acc (charOf c) w.heap.size wr hown hbl.size (by omega) hrc).mono ?_
      rintro e w3 ⟨v', rfl, hown3, hg3⟩
      have hbl3 : Below w.heap.size w w3 := hbl.grown hg3 hbl.size (fun j hj => (hown.lt j hj).1)
      go_wp2
      go_roundw
      case rel => exact ⟨k + 1, by omega, by go_num, by rw [HT.out]; exact hown3, hbl3⟩
      case measure => simp [intOf]; omega
    · have hkl : k = len := by omega
      go_wp2
      go_ret
      have he : textF (zs.take k) = textF zs := by rw [List.take_of_length_le (by rw [H0.out]; omega)]
      rw [he] at hown
      exact newPost_of_owns hown hbl

set_option maxRecDepth 100000 in
set_option maxHeartbeats 400000 in
theorem text_none (a : Option Addr) (cap : Nat) (w : World) : Calls Tryz.prog 147 #[.slice a 0 cap] w (NewPost .u8 (textF []) w) := by
  obtain ⟨i0, hi, hz0, hz1, hz2⟩ := info_parts Tryz.info5
  go_enter Tryz.func147, Tryz.ntmps147
  go_wp2_with (refine wpList_make_own _ rfl _ _ 22 rfl w.heap.size 5 i0 (.int .u8 0) 1 Tryz.underlying22 hi hz0 hz1 .i64 .i64 _ 0 rfl rfl rfl (by rw [hz2]; omega) (by unfold maxLen; omega) (Nat.le_refl _) ?_; intro w1 hown1 hgrow1)
  refine wp_loop_rounds 1 ?_; rw [rounds_succ]
  go_wp2
  go_ret
  exact newPost_of_owns (zs := textF []) hown1 (Below.of_grown hgrow1 (Nat.le_refl _) (by rintro _ ⟨⟩))

/-- What Text does. -/
theorem text_any (a : Option Addr) (cap n : Nat) (zs : List Int) (w : World) (hn : zs.length = n) (hr : Reads w .i64 a cap zs) (hsm : n ≤ 100000) :
    Calls Tryz.prog 147 #[.slice a n cap] w (NewPost .u8 (textF zs) w) := by
  obtain ⟨h1, h2, h3⟩ := hr
  by_cases h0 : zs = []
  · subst h0; subst hn; exact text_none _ cap w
  · obtain ⟨b, off, rfl, hat⟩ := h3.resolve_left h0
    exact text_some b off n cap zs w hn (by rw [← hn]; exact List.length_pos_iff.2 h0) (by omega) h2 hat hsm

set_option maxRecDepth 100000 in
set_option maxHeartbeats 1000000 in
theorem refText_some (b off len cap : Nat) (zs : List Int) (w : World) (hlen : zs.length = len) (h1 : 1 ≤ len) (hl : len ≤ cap) (hcap : cap ≤ maxLen) (hat : At w .i64 b off zs) (hsm : len ≤ 100000) :
    Calls Tryz.prog 117 #[.slice (some ⟨b, off, none⟩) len cap] w (NewPost .u8 (textF zs) w) := by
  obtain ⟨i0, hi, hz0, hz1, hz2⟩ := info_parts Tryz.info5
  unfold maxLen at hcap
  have H0 := Lib.hid hlen; clear hlen
  have own0 := World.ownsRow_made (base := w.heap.size) (e := 5) (size := 1) w #[] 0 (Nat.le_refl _) (by simp [maxLen]) (by simp)
  go_enter Tryz.func117, Tryz.ntmps117
  go_wp2
  go_loopw [3, 4] (fun v i wr => ∃ k : Nat, k ≤ len ∧ i = .int .i64 k ∧ wr.ownsRow w.heap.size 5 1 v (textF (zs.take k)).length ((textF (zs.take k)).map (Value.int .u8)) ∧ Below w.heap.size w wr)
    (fun _ i _ => len - (intOf i).toNat)
  case atStart => exact ⟨0, by omega, rfl, own0, (Below.refl _ w).alloc (Nat.le_refl _) _⟩
  case round =>
    obtain ⟨k, hk, rfl, hown, hbl⟩ := hrel
    by_cases hlt : k < len
    · have hkz : k < zs.length := by rw [H0.out]; exact hlt
      have HT := Lib.hid (textF_snoc zs k hkz)
      have hll := textF_len (zs.take k)
      rw [List.length_take] at hll
      have hc := (hat.later hbl hat.1).2 k hkz
      clear hkz
      generalize zs[k]?.getD 0 = c at hc HT
      generalize textF (zs.take k) = acc at *
      by_cases hrc : rightB c = true
      · have hbd := right_bd hrc
        have HC : Hid (charOf c = c) := Lib.hid (by unfold charOf; rw [if_pos hrc])
        have hpl := putF_len c
        have HR := Lib.hid hrc; clear hrc
        go_wp2_with fail
        refine (refRight_any c wr).mono ?_
        rintro e w2 ⟨he, rfl⟩
        rw [HR.out] at he
        subst he
        go_wp2_with fail
        refine (put_any c wr hbd.1 hbd.2).mono ?_
        rintro e w3 ⟨a3, c3, rfl, hr3, hb3⟩
        have hown3 := owns_later hown hb3
        have hbl3 := hbl.trans (hb3.mono hbl.size)
        have hnil3 : a3 = none → c3 = 0 := fun h => by
          rcases hr3.2.2 with h' | ⟨_, _, h', _⟩
          · exact absurd h' (putF_ne c)
          · rw [h] at h'; cases h'
        go_wp2_with (at_builtin; refine wpList_append_reads rfl _ _ 22 rfl w.heap.size 5 i0 .u8 1 Tryz.underlying22 hi hz0 hz1 hz2 _ acc.length acc rfl hown3 rfl a3 (putF c).length c3 (putF c) rfl rfl hr3 hnil3 (by unfold maxLen; omega) (by omega) hbl3.size ?_; intro v' w4 hown4 hgrow4)
        have hbl4 : Below w.heap.size w w4 := hbl3.grown hgrow4 hbl3.size (fun j hj => (hown3.lt j hj).1)
        go_roundw
        case rel => exact ⟨k + 1, by omega, by go_num, by rw [HT.out, HC.out]; exact hown4, hbl4⟩
        case measure => simp [intOf]; omega
      · have hrf : rightB c = false := by simpa using hrc
        have HC : Hid (charOf c = 65533) := Lib.hid (by unfold charOf; rw [if_neg hrc])
        have hpl := putF_len 65533
        have HR := Lib.hid hrf; clear hrc hrf
        go_wp2_with fail
        refine (refRight_any c wr).mono ?_
        rintro e w2 ⟨he, rfl⟩
        rw [HR.out] at he
        subst he
        go_wp2_with fail
        refine (put_any 65533 wr (by omega) (by omega)).mono ?_
        rintro e w3 ⟨a3, c3, rfl, hr3, hb3⟩
        have hown3 := owns_later hown hb3
        have hbl3 := hbl.trans (hb3.mono hbl.size)
        have hnil3 : a3 = none → c3 = 0 := fun h => by
          rcases hr3.2.2 with h' | ⟨_, _, h', _⟩
          · exact absurd h' (putF_ne _)
          · rw [h] at h'; cases h'
        go_wp2_with (at_builtin; refine wpList_append_reads rfl _ _ 22 rfl w.heap.size 5 i0 .u8 1 Tryz.underlying22 hi hz0 hz1 hz2 _ acc.length acc rfl hown3 rfl a3 (putF 65533).length c3 (putF 65533) rfl rfl hr3 hnil3 (by unfold maxLen; omega) (by omega) hbl3.size ?_; intro v' w4 hown4 hgrow4)
        have hbl4 : Below w.heap.size w w4 := hbl3.grown hgrow4 hbl3.size (fun j hj => (hown3.lt j hj).1)
        go_roundw
        case rel => exact ⟨k + 1, by omega, by go_num, by rw [HT.out, HC.out]; exact hown4, hbl4⟩
        case measure => simp [intOf]; omega
    · have hkl : k = len := by omega
      go_wp2
      go_ret
      have he : textF (zs.take k) = textF zs := by rw [List.take_of_length_le (by rw [H0.out]; omega)]
      rw [he] at hown
      exact newPost_of_owns hown hbl

theorem refText_none (a : Option Addr) (cap : Nat) (w : World) : Calls Tryz.prog 117 #[.slice a 0 cap] w (NewPost .u8 (textF []) w) := by
  have own0 := World.ownsRow_made (base := w.heap.size) (e := 5) (size := 1) w #[] 0 (Nat.le_refl _) (by simp [maxLen]) (by simp)
  go_enter Tryz.func117, Tryz.ntmps117
  go_wp2
  refine wp_loop_rounds 1 ?_; rw [rounds_succ]
  go_wp2
  go_ret
  exact newPost_of_owns (zs := textF []) own0 ((Below.refl _ w).alloc (Nat.le_refl _) _)

/-- The document's answer on Text. -/
theorem refText_any (a : Option Addr) (cap n : Nat) (zs : List Int) (w : World) (hn : zs.length = n) (hr : Reads w .i64 a cap zs) (hsm : n ≤ 100000) :
    Calls Tryz.prog 117 #[.slice a n cap] w (NewPost .u8 (textF zs) w) := by
  obtain ⟨h1, h2, h3⟩ := hr
  by_cases h0 : zs = []
  · subst h0; subst hn; exact refText_none _ cap w
  · obtain ⟨b, off, rfl, hat⟩ := h3.resolve_left h0
    exact refText_some b off n cap zs w hn (by rw [← hn]; exact List.length_pos_iff.2 h0) (by omega) h2 hat hsm
end

section
open Go.RowKit

/-- What First tells of the bytes from a place on. -/
def FirstSpec (ys : List Int) (c : Int) (n : Nat) : Prop :=
  (1 ≤ n ∧ n ≤ 4 ∧ n ≤ ys.length ∧ wholeF (ys.take n) = true ∧ c = toldF (ys.take n)) ∨
  ((∀ s, 1 ≤ s → s ≤ 4 → s ≤ ys.length → wholeF (ys.take s) = false) ∧ c = 65533 ∧ 1 ≤ n ∧ n ≤ 3 ∧
    (n = 1 ∨ n ≤ ys.length ∧ beginsF (ys.take n) = true) ∧ (∀ s, n < s → s ≤ 3 → s ≤ ys.length → beginsF (ys.take s) = false))

def FirstPost (ys : List Int) (w : World) (e : Ending) (w' : World) : Prop :=
  ∃ (c : Int) (n : Nat), e = .returned (.tuple #[.int .i64 c, .int .i64 n]) ∧ FirstSpec ys c n ∧ Below w.heap.size w w'

set_option maxRecDepth 100000 in
set_option maxHeartbeats 1000000 in
theorem first_some (b off len cap p : Nat) (zs : List Int) (w : World) (hlen : zs.length = len) (hp : p < len) (hl : len ≤ cap) (hsm : len ≤ 1000000) (hat : At w .u8 b off zs) (hz : U8 zs) :
    Calls Tryz.prog 27 #[.slice (some ⟨b, off, none⟩) len cap, .int .i64 p] w (FirstPost (zs.drop p) w) := by
  have HL : Hid ((zs.drop p).length = len - p) := Lib.hid (by rw [List.length_drop, hlen])
  clear hlen
  have hatd := hat.drop p
  have hzd := hz.drop p
  generalize zs.drop p = ys at *
  clear hat hz
  go_enter Tryz.func27, Tryz.ntmps27
  go_wp2
  go_loopw [6] (fun i wr => ∃ s : Nat, 1 ≤ s ∧ s ≤ 5 ∧ i = .int .i64 s ∧ (∀ t, 1 ≤ t → t < s → t ≤ ys.length → wholeF (ys.take t) = false) ∧ (5 ≤ s ∨ s ≤ len - p + 1) ∧ Below w.heap.size w wr) (fun i _ => 5 - (intOf i).toNat)
  case atStart => exact ⟨1, by omega, by omega, rfl, fun t h h' => by omega, by omega, Below.refl _ _⟩
  case round =>
    obtain ⟨s, hs1, hs2, rfl, hno, hs3, hbl⟩ := hrel
    have HN := Lib.hid hno; clear hno
    have hat1 := hatd.later hbl hatd.1
    by_cases hlt : s ≤ 4 ∧ p + s ≤ len
    · obtain ⟨hlt1, hlt2⟩ := hlt
      go_wp2_with fail
      refine (whole_some b (off + p) s (cap - p) (ys.take s) wr (by rw [List.length_take, HL.out]; omega) hs1 hlt1 (hat1.take s) (hzd.take s)).mono ?_
      rintro e w1 ⟨rfl, hb1⟩
      have hbl1 := hbl.trans (hb1.mono hbl.size)
      have hat2 := hatd.later hbl1 hatd.1
      by_cases hw1 : wholeF (ys.take s) = true
      · have HW := Lib.hid hw1
        rw [hw1]
        clear hw1
        go_wp2_with fail
        refine (told_some b (off + p) s (cap - p) (ys.take s) w1 (by rw [List.length_take, HL.out]; omega) hs1 hlt1 (hat2.take s) (hzd.take s)).mono ?_
        rintro e w2 ⟨rfl, hb2⟩
        have hbl2 := hbl1.trans (hb2.mono hbl1.size)
        go_wp2
        go_ret2
        exact ⟨_, s, rfl, .inl ⟨hs1, hlt1, by rw [HL.out]; omega, HW.out, rfl⟩, hbl2⟩
      · have hw1' : wholeF (ys.take s) = false := by simpa using hw1
        have HW := Lib.hid hw1'
        rw [hw1']
        clear hw1 hw1'
        go_wp2
        go_roundw
        case rel =>
          refine ⟨s + 1, by omega, by omega, by go_num, fun t h1 h2 h3 => ?_, by omega, hbl1⟩
          rcases Nat.lt_or_ge t s with h | h
          · exact HN.out t h1 h h3
          · rw [show t = s from by omega]; exact HW.out
        case measure => simp [intOf]; omega
    · have hall : ∀ t, 1 ≤ t → t ≤ 4 → t ≤ ys.length → wholeF (ys.take t) = false := fun t h1 h2 h3 => HN.out t h1 (by rw [HL.out] at h3; omega) h3
      have HA := Lib.hid hall; clear hall
      have hor : 4 < (s : Int) ∨ ((s : Int) ≤ 4 ∧ (len : Int) < (p : Int) + (s : Int)) := by omega
      rcases hor with hor | ⟨hor1, hor2⟩
      all_goals
        go_wp2
        go_loopw [7] (fun i wr => ∃ s : Nat, 1 ≤ s ∧ s ≤ 3 ∧ i = .int .i64 s ∧ (∀ t, s < t → t ≤ 3 → t ≤ ys.length → beginsF (ys.take t) = false) ∧ Below w.heap.size w wr) (fun i _ => (intOf i).toNat)
        case atStart => exact ⟨3, by omega, by omega, rfl, fun t h h' => by omega, hbl⟩
        case round =>
          obtain ⟨s2, hs4, hs5, rfl, hno2, hbl2⟩ := hrel
          have HN2 := Lib.hid hno2; clear hno2
          have hat3 := hatd.later hbl2 hatd.1
          by_cases hgt : 1 < s2
          · have hgt' : (1 : Int) < (s2 : Int) := by omega
            by_cases hle : p + s2 ≤ len
            · have hle' : (p : Int) + (s2 : Int) ≤ (len : Int) := by omega
              go_wp2_with fail
              refine (begins_some b (off + p) s2 (cap - p) (ys.take s2) _ (by rw [List.length_take, HL.out]; omega) hs4 (by omega) (hat3.take s2) (hzd.take s2)).mono ?_
              rintro e w3 ⟨rfl, hb3⟩
              have hbl3 := hbl2.trans (hb3.mono hbl2.size)
              by_cases hw2 : beginsF (ys.take s2) = true
              · have HW := Lib.hid hw2
                rw [hw2]
                clear hw2
                go_wp2
                go_ret2
                exact ⟨_, s2, rfl, .inr ⟨HA.out, rfl, hs4, hs5, .inr ⟨by rw [HL.out]; omega, HW.out⟩, fun t h1 h2 h3 => HN2.out t h1 h2 h3⟩, hbl3⟩
              · have hw2' : beginsF (ys.take s2) = false := by simpa using hw2
                have HW := Lib.hid hw2'
                rw [hw2']
                clear hw2 hw2'
                go_wp2
                go_roundw
                case rel =>
                  refine ⟨s2 - 1, by omega, by omega, by go_num, fun t h1 h2 h3 => ?_, hbl3⟩
                  rcases Nat.lt_or_ge s2 t with h | h
                  · exact HN2.out t h h2 h3
                  · rw [show t = s2 from by omega]; exact HW.out
                case measure => simp [intOf]; omega
            · have hle' : decide ((p : Int) + (s2 : Int) ≤ (len : Int)) = false := by rw [decide_eq_false_iff_not]; omega
              go_wp2
              go_roundw
              case rel =>
                refine ⟨s2 - 1, by omega, by omega, by go_num, fun t h1 h2 h3 => ?_, hbl2⟩
                rcases Nat.lt_or_ge s2 t with h | h
                · exact HN2.out t h h2 h3
                · rw [HL.out] at h3; omega
              case measure => simp [intOf]; omega
          · have : s2 = 1 := by omega
            subst this
            go_wp2
            go_ret2
            exact ⟨_, 1, rfl, .inr ⟨HA.out, rfl, by omega, by omega, .inl rfl, fun t h1 h2 h3 => HN2.out t h1 h2 h3⟩, hbl2⟩
end

section
open Go.RowKit

theorem putF_1 (n a : Int) : putF n = [a] ↔ n < 128 ∧ n = a := by
  unfold putF; (repeat' split) <;> simp <;> omega
theorem putF_2 (n a b : Int) : putF n = [a, b] ↔ 128 ≤ n ∧ n < 2048 ∧ 192 + n / 64 = a ∧ 128 + n % 64 = b := by
  unfold putF; (repeat' split) <;> simp <;> omega
theorem putF_3 (n a b c : Int) : putF n = [a, b, c] ↔ 2048 ≤ n ∧ n < 65536 ∧ 224 + n / 4096 = a ∧ 128 + n / 64 % 64 = b ∧ 128 + n % 64 = c := by
  unfold putF; (repeat' split) <;> simp <;> omega
theorem putF_4 (n a b c d : Int) : putF n = [a, b, c, d] ↔ 65536 ≤ n ∧ 240 + n / 262144 = a ∧ 128 + n / 4096 % 64 = b ∧ 128 + n / 64 % 64 = c ∧ 128 + n % 64 = d := by
  unfold putF; (repeat' split) <;> simp <;> omega

theorem told_1 (a : Int) : toldF [a] = a := by simp [toldF, toldTo, headOf]
theorem told_2 (a b : Int) : toldF [a, b] = 64 * (a - 192) + b - 128 := by simp [toldF, toldTo, headOf]
theorem told_3 (a b c : Int) : toldF [a, b, c] = 64 * (64 * (a - 224) + b - 128) + c - 128 := by simp [toldF, toldTo, headOf]
theorem told_4 (a b c d : Int) : toldF [a, b, c, d] = 64 * (64 * (64 * (a - 240) + b - 128) + c - 128) + d - 128 := by simp [toldF, toldTo, headOf]

/-- The bounds of the second byte. -/
theorem lo_cases (a : Int) : (a = 224 ∧ loOf a = 160) ∨ (a = 240 ∧ loOf a = 144) ∨ (a ≠ 224 ∧ a ≠ 240 ∧ loOf a = 128) := by
  unfold loOf; (repeat' split) <;> omega
theorem hi_cases (a : Int) : (a = 237 ∧ hiOf a = 159) ∨ (a = 244 ∧ hiOf a = 143) ∨ (a ≠ 237 ∧ a ≠ 244 ∧ hiOf a = 191) := by
  unfold hiOf; (repeat' split) <;> omega

theorem whole_1 (a : Int) (ha : 0 ≤ a ∧ a ≤ 255) : wholeF [a] = true ↔ a < 128 := by
  unfold wholeF rightB
  rw [Bool.and_eq_true, decide_eq_true_iff, decide_eq_true_iff, told_1, putF_1]; omega
theorem whole_2 (a b : Int) (ha : 0 ≤ a ∧ a ≤ 255) (hb : 0 ≤ b ∧ b ≤ 255) : wholeF [a, b] = true ↔ 194 ≤ a ∧ a ≤ 223 ∧ 128 ≤ b ∧ b ≤ 191 := by
  unfold wholeF rightB
  rw [Bool.and_eq_true, decide_eq_true_iff, decide_eq_true_iff, told_2, putF_2]; omega
theorem whole_3 (a b c : Int) (ha : 0 ≤ a ∧ a ≤ 255) (hb : 0 ≤ b ∧ b ≤ 255) (hc : 0 ≤ c ∧ c ≤ 255) :
    wholeF [a, b, c] = true ↔ 224 ≤ a ∧ a ≤ 239 ∧ loOf a ≤ b ∧ b ≤ hiOf a ∧ 128 ≤ c ∧ c ≤ 191 := by
  have h1 := lo_cases a
  have h2 := hi_cases a
  unfold wholeF rightB
  rw [Bool.and_eq_true, decide_eq_true_iff, decide_eq_true_iff, told_3, putF_3]
  generalize loOf a = l at *
  generalize hiOf a = h at *
  omega
theorem whole_4 (a b c d : Int) (ha : 0 ≤ a ∧ a ≤ 255) (hb : 0 ≤ b ∧ b ≤ 255) (hc : 0 ≤ c ∧ c ≤ 255) (hd : 0 ≤ d ∧ d ≤ 255) :
    wholeF [a, b, c, d] = true ↔ 240 ≤ a ∧ a ≤ 244 ∧ loOf a ≤ b ∧ b ≤ hiOf a ∧ 128 ≤ c ∧ c ≤ 191 ∧ 128 ≤ d ∧ d ≤ 191 := by
  have h1 := lo_cases a
  have h2 := hi_cases a
  unfold wholeF rightB
  rw [Bool.and_eq_true, decide_eq_true_iff, decide_eq_true_iff, told_4, putF_4]
  generalize loOf a = l at *
  generalize hiOf a = h at *
  omega

theorem begins_2 (a b : Int) (ha : 0 ≤ a ∧ a ≤ 255) (hb : 0 ≤ b ∧ b ≤ 255) : beginsF [a, b] = true ↔ 224 ≤ a ∧ a ≤ 244 ∧ loOf a ≤ b ∧ b ≤ hiOf a := by
  have e : beginsF [a, b] = (wholeF [a, b, 128] || wholeF [a, b, 191] || (wholeF [a, b, 128, 128] || wholeF [a, b, 191, 191])) := by
    simp [beginsF, List.range, List.range.loop, goesTo, fillF, List.replicate]
  rw [e, Bool.or_eq_true, Bool.or_eq_true, Bool.or_eq_true, whole_3 a b 128 ha hb (by omega), whole_3 a b 191 ha hb (by omega), whole_4 a b 128 128 ha hb (by omega) (by omega), whole_4 a b 191 191 ha hb (by omega) (by omega)]
  omega
theorem begins_3 (a b c : Int) (ha : 0 ≤ a ∧ a ≤ 255) (hb : 0 ≤ b ∧ b ≤ 255) (hc : 0 ≤ c ∧ c ≤ 255) : beginsF [a, b, c] = true ↔ 240 ≤ a ∧ a ≤ 244 ∧ loOf a ≤ b ∧ b ≤ hiOf a ∧ 128 ≤ c ∧ c ≤ 191 := by
  have e : beginsF [a, b, c] = (wholeF [a, b, c, 128] || wholeF [a, b, c, 191]) := by
    simp [beginsF, List.range, List.range.loop, goesTo, fillF]
  rw [e, Bool.or_eq_true, whole_4 a b c 128 ha hb hc (by omega), whole_4 a b c 191 ha hb hc (by omega)]
  omega

theorem take_1 (ys : List Int) (h : 1 ≤ ys.length) : ys.take 1 = [ys[0]?.getD 0] := by
  match ys, h with
  | a :: r, _ => simp
theorem take_2 (ys : List Int) (h : 2 ≤ ys.length) : ys.take 2 = [ys[0]?.getD 0, ys[1]?.getD 0] := by
  match ys, h with
  | a :: b :: r, _ => simp
theorem take_3 (ys : List Int) (h : 3 ≤ ys.length) : ys.take 3 = [ys[0]?.getD 0, ys[1]?.getD 0, ys[2]?.getD 0] := by
  match ys, h with
  | a :: b :: c :: r, _ => simp
theorem take_4 (ys : List Int) (h : 4 ≤ ys.length) : ys.take 4 = [ys[0]?.getD 0, ys[1]?.getD 0, ys[2]?.getD 0, ys[3]?.getD 0] := by
  match ys, h with
  | a :: b :: c :: d :: r, _ => simp

theorem read_c1 (a b : Int) (ha : 194 ≤ a ∧ a ≤ 223) (hb : 128 ≤ b ∧ b ≤ 191) : charNext (charBegin a) b = 64 * (a - 192) + b - 128 := by
  rw [charBegin_eq a (by omega) (by omega), if_neg (by omega), if_neg (by omega), if_pos (by omega), charNext_eq _ _ (by omega) (by omega)]; omega
theorem read_c2 (a b c : Int) (ha : 224 ≤ a ∧ a ≤ 239) (hb : 128 ≤ b ∧ b ≤ 191) (hc : 128 ≤ c ∧ c ≤ 191) : charNext (charNext (charBegin a) b) c = 64 * (64 * (a - 224) + b - 128) + c - 128 := by
  rw [charBegin_eq a (by omega) (by omega), if_neg (by omega), if_pos (by omega), charNext_eq (a % 16) b (by omega) (by omega), charNext_eq _ _ (by omega) (by omega)]; omega
theorem read_c3 (a b c d : Int) (ha : 240 ≤ a ∧ a ≤ 244) (hb : 128 ≤ b ∧ b ≤ 191) (hc : 128 ≤ c ∧ c ≤ 191) (hd : 128 ≤ d ∧ d ≤ 191) :
    charNext (charNext (charNext (charBegin a) b) c) d = 64 * (64 * (64 * (a - 240) + b - 128) + c - 128) + d - 128 := by
  rw [charBegin_eq a (by omega) (by omega), if_pos (by omega), charNext_eq (a % 8) b (by omega) (by omega), charNext_eq (a % 8 * 64 + b % 64) c (by omega) (by omega), charNext_eq _ _ (by omega) (by omega)]; omega

/-- How many bytes are a character's, which it is, and when there is none: as read tells it. -/
def ReadSpec (ys : List Int) (c : Int) (n : Nat) (o : Bool) : Prop :=
  1 ≤ n ∧ n ≤ 4 ∧ n ≤ ys.length ∧
  ((o = true ∧ wholeF (ys.take n) = true ∧ c = toldF (ys.take n)) ∨
   (o = false ∧ c = 0 ∧ n ≤ 3 ∧ (∀ s, 1 ≤ s → s ≤ 4 → s ≤ ys.length → wholeF (ys.take s) = false) ∧
    (n = 1 ∨ n ≤ ys.length ∧ beginsF (ys.take n) = true) ∧ (∀ s, n < s → s ≤ 3 → s ≤ ys.length → beginsF (ys.take s) = false)))

theorem all4 {P : Nat → Prop} (h1 : P 1) (h2 : P 2) (h3 : P 3) (h4 : P 4) : ∀ s, 1 ≤ s → s ≤ 4 → P s := by
  intro s h h'
  match s, h, h' with
  | 1, _, _ => exact h1
  | 2, _, _ => exact h2
  | 3, _, _ => exact h3
  | 4, _, _ => exact h4

section
variable (ys : List Int) (hz : U8 ys) (a b c d : Int) (ea : ys[0]?.getD 0 = a) (eb : ys[1]?.getD 0 = b) (ec : ys[2]?.getD 0 = c) (ed : ys[3]?.getD 0 = d)
include hz ea eb ec ed

theorem bds : (0 ≤ a ∧ a ≤ 255) ∧ (0 ≤ b ∧ b ≤ 255) ∧ (0 ≤ c ∧ c ≤ 255) ∧ (0 ≤ d ∧ d ≤ 255) := by
  rw [← ea, ← eb, ← ec, ← ed]; exact ⟨hz.at 0, hz.at 1, hz.at 2, hz.at 3⟩

theorem no_whole (h1 : 1 ≤ ys.length → ¬ a < 128)
    (h2 : 2 ≤ ys.length → ¬ (194 ≤ a ∧ a ≤ 223 ∧ 128 ≤ b ∧ b ≤ 191))
    (h3 : 3 ≤ ys.length → ¬ (224 ≤ a ∧ a ≤ 239 ∧ loOf a ≤ b ∧ b ≤ hiOf a ∧ 128 ≤ c ∧ c ≤ 191))
    (h4 : 4 ≤ ys.length → ¬ (240 ≤ a ∧ a ≤ 244 ∧ loOf a ≤ b ∧ b ≤ hiOf a ∧ 128 ≤ c ∧ c ≤ 191 ∧ 128 ≤ d ∧ d ≤ 191)) :
    ∀ s, 1 ≤ s → s ≤ 4 → s ≤ ys.length → wholeF (ys.take s) = false := by
  obtain ⟨ba, bb, bc, bd⟩ := bds ys hz a b c d ea eb ec ed
  refine all4 (fun hl => ?_) (fun hl => ?_) (fun hl => ?_) (fun hl => ?_)
  · rw [take_1 ys hl, ea, ← Bool.not_eq_true, whole_1 _ ba]; exact h1 hl
  · rw [take_2 ys hl, ea, eb, ← Bool.not_eq_true, whole_2 _ _ ba bb]; exact h2 hl
  · rw [take_3 ys hl, ea, eb, ec, ← Bool.not_eq_true, whole_3 _ _ _ ba bb bc]; exact h3 hl
  · rw [take_4 ys hl, ea, eb, ec, ed, ← Bool.not_eq_true, whole_4 _ _ _ _ ba bb bc bd]; exact h4 hl

theorem no_begin (n : Nat) (hn : 1 ≤ n) (h2 : n < 2 → 2 ≤ ys.length → ¬ (224 ≤ a ∧ a ≤ 244 ∧ loOf a ≤ b ∧ b ≤ hiOf a))
    (h3 : n < 3 → 3 ≤ ys.length → ¬ (240 ≤ a ∧ a ≤ 244 ∧ loOf a ≤ b ∧ b ≤ hiOf a ∧ 128 ≤ c ∧ c ≤ 191)) :
    ∀ s, n < s → s ≤ 3 → s ≤ ys.length → beginsF (ys.take s) = false := by
  obtain ⟨ba, bb, bc, bd⟩ := bds ys hz a b c d ea eb ec ed
  intro s hs hs3 hl
  rcases (show s = 2 ∨ s = 3 from by omega) with rfl | rfl
  · rw [take_2 ys hl, ea, eb, ← Bool.not_eq_true, begins_2 _ _ ba bb]; exact h2 hs hl
  · rw [take_3 ys hl, ea, eb, ec, ← Bool.not_eq_true, begins_3 _ _ _ ba bb bc]; exact h3 hs hl
end

theorem read_spec (ys : List Int) (hz : U8 ys) (hl : 1 ≤ ys.length) : ReadSpec ys (readF ys).1 (readF ys).2.1 (readF ys).2.2 := by
  obtain ⟨a, ea⟩ : ∃ a, ys[0]?.getD 0 = a := ⟨_, rfl⟩
  obtain ⟨b, eb⟩ : ∃ a, ys[1]?.getD 0 = a := ⟨_, rfl⟩
  obtain ⟨c, ec⟩ : ∃ a, ys[2]?.getD 0 = a := ⟨_, rfl⟩
  obtain ⟨d, ed⟩ : ∃ a, ys[3]?.getD 0 = a := ⟨_, rfl⟩
  obtain ⟨ba, bb, bc, bd⟩ := bds ys hz a b c d ea eb ec ed
  have nw := no_whole ys hz a b c d ea eb ec ed
  have nb := no_begin ys hz a b c d ea eb ec ed
  have hlo := lo_cases a
  have hhi := hi_cases a
  have t1 := read_c1 a b
  have t2 := read_c2 a b c
  have t3 := read_c3 a b c d
  unfold readF goesOn
  dsimp only
  simp only [ea, eb, ec, ed]
  generalize charNext (charNext (charNext (charBegin a) b) c) d = x3 at *
  generalize charNext (charNext (charBegin a) b) c = x2 at *
  generalize charNext (charBegin a) b = x1 at *
  generalize HLO : loOf a = lo at *
  generalize HHI : hiOf a = hi at *
  split
  · exact ⟨by simp, by simp, by simpa using hl, .inl ⟨rfl, by rw [take_1 ys hl, ea, whole_1 _ ba]; assumption, by rw [take_1 ys hl, ea, told_1]⟩⟩
  · split
    · split
      · exact ⟨by simp, by simp, by simpa using hl, .inr ⟨rfl, rfl, by simp, nw (fun _ => by omega) (fun _ => by omega) (fun _ => by omega) (fun _ => by omega), .inl rfl, nb 1 (by omega) (fun _ _ => by omega) (fun _ _ => by omega)⟩⟩
      · split
        · have h2 : 2 ≤ ys.length := by omega
          exact ⟨by simp, by simp, h2, .inl ⟨rfl, by rw [take_2 ys h2, ea, eb, whole_2 _ _ ba bb]; omega, by rw [take_2 ys h2, ea, eb, told_2]; exact t1 (by omega) (by omega)⟩⟩
        · split
          · have h2 : 2 ≤ ys.length := by omega
            exact ⟨by simp, by simp, h2, .inr ⟨rfl, rfl, by simp, nw (fun _ => by omega) (fun _ => by omega) (fun _ => by omega) (fun _ => by omega), .inr ⟨h2, by rw [take_2 ys h2, ea, eb, begins_2 _ _ ba bb, HLO, HHI]; omega⟩, nb 2 (by omega) (fun _ _ => by omega) (fun _ _ => by omega)⟩⟩
          · split
            · have h3 : 3 ≤ ys.length := by omega
              exact ⟨by simp, by simp, h3, .inl ⟨rfl, by rw [take_3 ys h3, ea, eb, ec, whole_3 _ _ _ ba bb bc, HLO, HHI]; omega, by rw [take_3 ys h3, ea, eb, ec, told_3]; exact t2 (by omega) (by omega) (by omega)⟩⟩
            · split
              · have h3 : 3 ≤ ys.length := by omega
                exact ⟨by simp, by simp, h3, .inr ⟨rfl, rfl, by simp, nw (fun _ => by omega) (fun _ => by omega) (fun _ => by omega) (fun _ => by omega), .inr ⟨h3, by rw [take_3 ys h3, ea, eb, ec, begins_3 _ _ _ ba bb bc, HLO, HHI]; omega⟩, nb 3 (by omega) (fun _ _ => by omega) (fun _ _ => by omega)⟩⟩
              · have h4 : 4 ≤ ys.length := by omega
                exact ⟨by simp, by simp, h4, .inl ⟨rfl, by rw [take_4 ys h4, ea, eb, ec, ed, whole_4 _ _ _ _ ba bb bc bd, HLO, HHI]; omega, by rw [take_4 ys h4, ea, eb, ec, ed, told_4]; exact t3 (by omega) (by omega) (by omega) (by omega)⟩⟩
    · exact ⟨by simp, by simp, by simpa using hl, .inr ⟨rfl, rfl, by simp, nw (fun _ => by omega) (fun _ => by omega) (fun _ => by omega) (fun _ => by omega), .inl rfl, nb 1 (by omega) (fun _ _ => by omega) (fun _ _ => by omega)⟩⟩

/-- How many bytes a character has, by its first byte. -/
theorem whole_size (ys : List Int) (hz : U8 ys) (n : Nat) (h1 : 1 ≤ n) (h4 : n ≤ 4) (hl : n ≤ ys.length) (h : wholeF (ys.take n) = true) :
    n = if ys[0]?.getD 0 < 128 then 1 else if ys[0]?.getD 0 ≤ 223 then 2 else if ys[0]?.getD 0 ≤ 239 then 3 else 4 := by
  rcases (show n = 1 ∨ n = 2 ∨ n = 3 ∨ n = 4 from by omega) with rfl | rfl | rfl | rfl
  · rw [take_1 ys hl, whole_1 _ (hz.at 0)] at h; rw [if_pos h]
  · rw [take_2 ys hl, whole_2 _ _ (hz.at 0) (hz.at 1)] at h; rw [if_neg (by omega), if_pos (by omega)]
  · rw [take_3 ys hl, whole_3 _ _ _ (hz.at 0) (hz.at 1) (hz.at 2)] at h; rw [if_neg (by omega), if_neg (by omega), if_pos (by omega)]
  · rw [take_4 ys hl, whole_4 _ _ _ _ (hz.at 0) (hz.at 1) (hz.at 2) (hz.at 3)] at h; rw [if_neg (by omega), if_neg (by omega), if_neg (by omega)]

/-- What First tells is what read tells. -/
theorem first_eq (ys : List Int) (hz : U8 ys) (hl : 1 ≤ ys.length) {c : Int} {n : Nat} (h : FirstSpec ys c n) :
    n = sizeF ys ∧ c = charF ys ∧ ((readF ys).2.2 = true ↔ wholeF (ys.take n) = true) := by
  obtain ⟨g1, g4, gl, g⟩ := read_spec ys hz hl
  unfold charF sizeF
  generalize (readF ys).1 = c' at *
  generalize (readF ys).2.1 = n' at *
  generalize (readF ys).2.2 = o at *
  rcases h with ⟨a1, a4, al, aw, ac⟩ | ⟨aw, ac, a1, a3, ab, am⟩ <;> rcases g with ⟨go, gw, gc⟩ | ⟨go, gc, g3, gw, gb, gm⟩
  · obtain rfl : n = n' := (whole_size ys hz n a1 a4 al aw).trans (whole_size ys hz n' g1 g4 gl gw).symm
    exact ⟨rfl, by rw [if_pos go, ac, gc], by rw [go, aw]⟩
  · rw [gw n a1 a4 al] at aw; cases aw
  · rw [aw n' g1 g4 gl] at gw; cases gw
  · obtain rfl : n = n' := by
      rcases Nat.lt_trichotomy n n' with hh | hh | hh
      · rcases gb with gb | ⟨gb1, gb2⟩
        · omega
        · rw [am n' hh g3 gb1] at gb2; cases gb2
      · exact hh
      · rcases ab with ab | ⟨ab1, ab2⟩
        · omega
        · rw [gm n hh a3 ab1] at ab2; cases ab2
    refine ⟨rfl, by rw [go, if_neg (by simp), ac], ?_⟩
    rw [go]
    have : wholeF (ys.take n) = false := aw n g1 g4 gl
    rw [this]
end

section
open Go.RowKit

theorem told_put (c : Int) (h : rightB c = true) : toldF (putF c) = c := by
  have := right_bd h
  unfold putF
  (repeat' split)
  · exact told_1 c
  · rw [told_2]; omega
  · rw [told_3]; omega
  · rw [told_4]; omega
theorem whole_put (c : Int) (h : rightB c = true) : wholeF (putF c) = true := by
  unfold wholeF; rw [told_put c h, h]; simp
theorem putF_pos (c : Int) : 1 ≤ (putF c).length := List.length_pos_iff.2 (putF_ne c)

/-- A character's bytes at the beginning are read as it. -/
theorem read_put (c : Int) (h : rightB c = true) (zs : List Int) (hz : U8 zs) : charF (putF c ++ zs) = c ∧ sizeF (putF c ++ zs) = (putF c).length ∧ (readF (putF c ++ zs)).2.2 = true := by
  have hu : U8 (putF c ++ zs) := fun z hm => by
    rcases List.mem_append.1 hm with h1 | h1
    · exact putF_u8 c h z h1
    · exact hz z h1
  have ht : (putF c ++ zs).take (putF c).length = putF c := by simp
  have hw : wholeF ((putF c ++ zs).take (putF c).length) = true := by rw [ht]; exact whole_put c h
  have hf : FirstSpec (putF c ++ zs) c (putF c).length := .inl ⟨putF_pos c, putF_len c, by simp, hw, by rw [ht, told_put c h]⟩
  obtain ⟨h1, h2, h3⟩ := first_eq (putF c ++ zs) hu (by rw [List.length_append]; have := putF_pos c; omega) hf
  exact ⟨h2.symm, h1.symm, h3.2 hw⟩

/-- The characters of bytes, with no mark left out. -/
def rawN : Nat → List Int → List Int
  | 0, _ => []
  | f + 1, ys => if ys = [] then [] else charF ys :: rawN f (ys.drop (sizeF ys))
def rawF (ys : List Int) : List Int := rawN ys.length ys
def dropMark : List Int → List Int
  | [] => []
  | c :: r => if c = 65279 then r else c :: r

theorem size_pos (ys : List Int) (h : ys ≠ []) : 1 ≤ sizeF ys := (readF_size ys h).1
theorem rawN_enough : ∀ (f : Nat) (ys : List Int), ys.length ≤ f → rawN f ys = rawN ys.length ys
  | 0, ys, h => by rw [List.length_eq_zero_iff.1 (Nat.le_zero.1 h)]; rfl
  | f + 1, ys, h => by
    by_cases h0 : ys = []
    · subst h0; rfl
    · obtain ⟨m, hm⟩ : ∃ m, ys.length = m + 1 := ⟨ys.length - 1, by have := List.length_pos_iff.2 h0; omega⟩
      have hs := size_pos ys h0
      rw [hm, rawN, rawN, if_neg h0, if_neg h0]
      congr 1
      rw [rawN_enough f _ (by rw [List.length_drop]; omega), rawN_enough m _ (by rw [List.length_drop]; omega)]
theorem rawF_nil : rawF [] = [] := rfl
theorem rawF_step (ys : List Int) (h : ys ≠ []) : rawF ys = charF ys :: rawF (ys.drop (sizeF ys)) := by
  obtain ⟨m, hm⟩ : ∃ m, ys.length = m + 1 := ⟨ys.length - 1, by have := List.length_pos_iff.2 h; omega⟩
  have hs := size_pos ys h
  unfold rawF
  rw [hm, rawN, if_neg h]
  congr 1
  exact rawN_enough m _ (by rw [List.length_drop]; omega)
theorem charsN_raw : ∀ (f : Nat) (zs : List Int) (k : Nat), zs.length - k ≤ f → 0 < k → charsN f zs k = rawF (zs.drop k)
  | 0, zs, k, h, _ => by rw [List.drop_eq_nil_of_le (by omega)]; rfl
  | f + 1, zs, k, h, hk => by
    by_cases hl : zs.length ≤ k
    · rw [charsN, if_pos hl, List.drop_eq_nil_of_le hl]; rfl
    · have h0 : zs.drop k ≠ [] := by intro e; have := congrArg List.length e; rw [List.length_drop] at this; simp at this; omega
      have hs := size_pos _ h0
      rw [charsN, if_neg hl, if_pos (.inr (by omega)), rawF_step _ h0, charsN_raw f zs _ (by omega) (by omega), List.drop_drop]
      rfl
theorem charsF_raw (zs : List Int) : charsF zs = dropMark (rawF zs) := by
  by_cases h0 : zs = []
  · subst h0; rfl
  · have hl : 0 < zs.length := List.length_pos_iff.2 h0
    have hs := size_pos zs h0
    unfold charsF
    rw [charsFrom_step zs 0 hl, List.drop_zero, rawF_step zs h0]
    have e : charsFrom zs (0 + sizeF zs) = rawF (zs.drop (sizeF zs)) := by
      rw [Nat.zero_add]; exact charsN_raw _ zs _ (Nat.le_refl _) (by omega)
    rw [e, dropMark]
    by_cases hm : charF zs = 65279
    · rw [if_neg (by simp [hm]), if_pos hm]; rfl
    · rw [if_pos (.inl hm), if_neg hm]; rfl

theorem rawF_put (c : Int) (h : rightB c = true) (zs : List Int) (hz : U8 zs) : rawF (putF c ++ zs) = c :: rawF zs := by
  obtain ⟨h1, h2, _⟩ := read_put c h zs hz
  rw [rawF_step _ (by intro e; exact putF_ne c (List.append_eq_nil_iff.1 e).1), h1, h2]
  simp
/-- Bytes of characters, with any others behind them. -/
theorem rawF_all (cs : List Int) (h : ∀ c ∈ cs, rightB c = true) (zs : List Int) (hz : U8 zs) : rawF (cs.flatMap putF ++ zs) = cs ++ rawF zs := by
  induction cs with
  | nil => rfl
  | cons c cs ih =>
    have hu : U8 (cs.flatMap putF ++ zs) := fun z hm => by
      rcases List.mem_append.1 hm with h1 | h1
      · obtain ⟨d, hd, hd2⟩ := List.mem_flatMap.1 h1
        exact putF_u8 d (h d (by simp [hd])) z hd2
      · exact hz z h1
    rw [List.flatMap_cons, List.append_assoc, rawF_put c (h c (by simp)) _ hu, ih (fun d hd => h d (by simp [hd]))]
    rfl
theorem textF_map (zs : List Int) : textF zs = (zs.map charOf).flatMap putF := by
  unfold textF; rw [List.flatMap_map]
theorem chars_text (zs : List Int) : charsF (textF zs) = dropMark (zs.map charOf) := by
  rw [charsF_raw, textF_map]
  have h := rawF_all (zs.map charOf) (fun c hc => by obtain ⟨d, _, rfl⟩ := List.mem_map.1 hc; exact charOf_right d) [] (by intro z hz; simp at hz)
  rw [List.append_nil] at h
  rw [h, rawF_nil, List.append_nil]
end
end Go.Proofs.YtickcbmfboajiaaGreatDoor
