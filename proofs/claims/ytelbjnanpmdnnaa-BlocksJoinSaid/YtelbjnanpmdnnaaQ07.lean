/- Texts of mine in one: Whole. -/
import Derived.Deep.RegionWith
import Derived.Test.YtelbjnanpmdnnaaQ06
namespace Go.Proofs.Ytelbjnanpmdnnaa
section
open Go.RowKit
def headOf (n : Nat) : Int := if n = 1 then 0 else if n = 2 then 0xc0 else if n = 3 then 0xe0 else 0xf0
def toldTo (zs : List Int) (h : Int) : Nat → Int
  | 0 => zs[0]?.getD 0 - h
  | k + 1 => 64 * toldTo zs h k + zs[k + 1]?.getD 0 - 128
def toldF (zs : List Int) : Int := toldTo zs (headOf zs.length) (zs.length - 1)
theorem headOf_bd (n : Nat) : 0 ≤ headOf n ∧ headOf n ≤ 0xf0 := by
  unfold headOf; split <;> (try split) <;> (try split) <;> omega
theorem toldTo_step (zs : List Int) (h : Int) (k : Nat) : toldTo zs h (k + 1) = 64 * toldTo zs h k + zs[k + 1]?.getD 0 - 128 := rfl
theorem toldTo_bd (zs : List Int) (h : Int) (hz : U8 zs) (hh : 0 ≤ h ∧ h ≤ 0xf0) (k : Nat) (hk : k ≤ 3) : -100000000 ≤ toldTo zs h k ∧ toldTo zs h k ≤ 100000000 := by
  have e0 := hz.at 0; have e1 := hz.at 1; have e2 := hz.at 2; have e3 := hz.at 3
  have s1 := toldTo_step zs h 0; have s2 := toldTo_step zs h 1; have s3 := toldTo_step zs h 2
  have s0 : toldTo zs h 0 = zs[0]?.getD 0 - h := rfl
  simp only [Nat.zero_add, Nat.reduceAdd] at s1 s2 s3
  match k, hk with
  | 0, _ => omega
  | 1, _ => omega
  | 2, _ => omega
  | 3, _ => omega
set_option maxRecDepth 100000 in
set_option maxHeartbeats 400000 in
theorem told_some (b off len cap : Nat) (zs : List Int) (w : World) (hlen : zs.length = len) (h1 : 1 ≤ len) (h4 : len ≤ 4) (hat : At w .u8 b off zs) (hz : U8 zs) :
    Calls Try.prog 61 #[.slice (some ⟨b, off, none⟩) len cap] w fun e w' => e = .returned (.int .i64 (toldF zs)) ∧ Below w.heap.size w w' := by
  have c0 := hat.2 0 (by omega)
  have z0 := hz.at 0
  have hw : (w.alloc (Obj.cells #[Value.int IntKind.i64 0, Value.int IntKind.i64 0, Value.int IntKind.i64 192, Value.int IntKind.i64 224, Value.int IntKind.i64 240] 3)).cell? ⟨w.heap.size, len, none⟩ = some (.int .i64 (headOf len)) := by
    match len, h1, h4 with
    | 1, _, _ => simp [headOf]
    | 2, _, _ => simp [headOf]
    | 3, _, _ => simp [headOf]
    | 4, _, _ => simp [headOf]
  have hb2 := headOf_bd len
  have hb := hat.1
  simp only [Nat.add_zero] at c0
  have HB := Lib.hid hlen; clear hlen
  go_enter Try.func61, Try.ntmps61
  go_wp2
  go_quiet (fail)
  go_wp2
  go_loopw [4, 5] (fun n i wr => ∃ k : Nat, k + 1 ≤ len ∧ i = .int .i64 (k + 1 : Nat) ∧ n = .int .i64 (toldTo zs (headOf len) k) ∧ Below w.heap.size w wr) (fun _ i _ => len - (intOf i).toNat)
  case atStart => exact ⟨0, by omega, by go_num, rfl, below_drewN ((Below.refl _ _).alloc (Nat.le_refl _) _) _⟩
  case round =>
    obtain ⟨k, hk, rfl, rfl, hbl⟩ := hrel
    have bd := toldTo_bd zs (headOf len) hz hb2 k (by omega)
    have hz1 := hz.at (k + 1)
    have hcell : (k : Int) + 1 < (len : Int) → wr.cell? ⟨b, off + (k + 1), none⟩ = some (.int .u8 (zs[k + 1]?.getD 0)) := fun h => (hbl.cell (by exact hb)).trans (hat.2 (k + 1) (by rw [HB.out]; omega))
    go_wp2
    · have ht := toldTo_step zs (headOf len) k
      go_roundw
      case rel => exact ⟨k + 1, by omega, by go_num, by rw [ht], hbl⟩
      case measure => simp [intOf]; omega
    · go_ret
      have : len - 1 = k := by omega
      exact ⟨ret_int (by rw [toldF, HB.out, this]), hbl⟩
theorem refRight_no (n : Int) (w : World) (h : rightB n = false) :
    Calls Try.prog 33 #[.int .i64 n] w fun e w' => e = .returned (.bool false) ∧ w' = w :=
  (refRight_any n w).mono fun _ _ ⟨he, hw⟩ => ⟨by rw [he, h], hw.symm⟩
def wholeF (zs : List Int) : Bool := rightB (toldF zs) && decide (putF (toldF zs) = zs)
theorem strs_eq (xs ys : List Int) (hx : U8 xs) (hy : U8 ys) : ((strOfNums xs).toList == (strOfNums ys).toList) = decide (xs = ys) := by
  have inj : ∀ (xs ys : List Int), U8 xs → U8 ys → (xs.map fun n => UInt8.ofNat n.toNat) = (ys.map fun n => UInt8.ofNat n.toNat) → xs = ys := by
    intro xs
    induction xs with
    | nil => intro ys _ _ h; exact (List.map_eq_nil_iff.1 h.symm).symm
    | cons x xs ih =>
      intro ys hx hy h
      cases ys with
      | nil => simp at h
      | cons y ys =>
        simp only [List.map_cons, List.cons.injEq] at h
        obtain ⟨h1, h2⟩ := h
        have e := congrArg UInt8.toNat h1
        have b1 := hx x (by simp)
        have b2 := hy y (by simp)
        simp only [UInt8.toNat_ofNat'] at e
        rw [ih ys (fun z hz => hx z (by simp [hz])) (fun z hz => hy z (by simp [hz])) h2, show x = y from by omega]
  have tl : ∀ zs : List Int, (strOfNums zs).toList = zs.map fun n => UInt8.ofNat n.toNat := fun zs => by
    rw [← strOfNums_data]; exact ByteArray.toList_eq _
  rw [tl, tl, Bool.eq_iff_iff, beq_iff_eq, decide_eq_true_iff]
  exact ⟨fun h => inj xs ys hx hy h, fun h => by rw [h]⟩
theorem putF_u8 (n : Int) (h : rightB n = true) : U8 (putF n) := by
  unfold rightB at h
  rw [decide_eq_true_iff] at h
  intro z hz
  unfold putF at hz
  (repeat' split at hz) <;> simp at hz <;> omega
theorem putF_ne (n : Int) : putF n ≠ [] := by
  unfold putF; (repeat' split) <;> simp
set_option maxRecDepth 100000 in
set_option maxHeartbeats 1000000 in
theorem whole_some (b off len cap : Nat) (zs : List Int) (w : World) (hlen : zs.length = len) (h1 : 1 ≤ len) (h4 : len ≤ 4) (hat : At w .u8 b off zs) (hz : U8 zs) :
    Calls Try.prog 60 #[.slice (some ⟨b, off, none⟩) len cap] w (BoolPost (wholeF zs) w) := by
  by_cases hr : rightB (toldF zs) = true
  · have hr2 := hr
    unfold rightB at hr2
    rw [decide_eq_true_iff] at hr2
    go_enter Try.func60, Try.ntmps60
    go_wp2_with fail
    refine (told_some b off len cap zs w hlen h1 h4 hat hz).mono ?_
    rintro e w1 ⟨rfl, hb1⟩
    have hat1 := hat.later hb1 hat.1
    have HRR := Lib.hid hr
    have cvt := fun (wx : World) (hx : At wx .u8 b off zs) => run_convert_bytes_arg wx 22 5 Try.underlying22 Try.underlying5 b off len cap zs hlen (fun i hi => by rw [List.getD_eq_getElem?_getD]; exact hx.2 i (by rw [hlen]; exact hi)) 9 Try.underlying9
    have hat1d : At w1.drew .u8 b off zs := hat1
    have cv1 := cvt w1.drew hat1d
    have CV := Lib.hid cvt; clear cvt
    go_wp2_with fail
    go_region_with (first
      | (go_at_call 33; refine (refRight_any _ _).mono ?_; rintro e w' ⟨rfl, rfl⟩)
      | (go_at_call 78; refine (put_any _ _ hr2.1 hr2.2.1).mono ?_; rintro e w2 ⟨a, cp, rfl, ⟨hq1, hq2, hq3⟩, hb2⟩; obtain ⟨b2, off2, rfl, hat2⟩ := hq3.resolve_left (putF_ne _); have cv2 := run_convert_bytes_arg w2 22 5 Try.underlying22 Try.underlying5 b2 off2 _ cp (putF (toldF zs)) rfl (fun i hi => by rw [List.getD_eq_getElem?_getD]; exact hat2.2 i hi) 9 Try.underlying9; have cv3 := CV.out w2 (hat1d.later hb2 hat1d.1)))
    all_goals
      go_wp2
      go_ret
      exact ⟨ret_bool ((strs_eq _ _ (putF_u8 _ HRR.out) hz).trans (by rw [wholeF, HRR.out]; rfl)), hb1.drew.trans (hb2.mono hb1.size)⟩
  · have hrf : rightB (toldF zs) = false := by simpa using hr
    clear hr
    have HRR := Lib.hid hrf
    go_enter Try.func60, Try.ntmps60
    go_wp2_with fail
    refine (told_some b off len cap zs w hlen h1 h4 hat hz).mono ?_
    rintro e w1 ⟨rfl, hb1⟩
    go_wp2_with fail
    go_quiet ((go_at_call 33; exact Calls.quiet_of_same (refRight_no _ _ hrf)))
    go_wp2
    go_ret
    exact ⟨ret_bool (by rw [wholeF, HRR.out]; rfl), below_drewN hb1 _⟩
end
end Go.Proofs.Ytelbjnanpmdnnaa
