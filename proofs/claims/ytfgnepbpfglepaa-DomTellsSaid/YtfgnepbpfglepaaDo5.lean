/- A row of places that are none, of any length: a walk. -/
import Derived.Test.YtfgnepbpfglepaaDo4
import Derived.Test.YtfgnepbpfglepaaDn8
namespace Go.Proofs.Ytfgnepbpfglepaa
open Go.RowKit
set_option linter.unusedVariables false
set_option linter.unusedSimpArgs false

def setL : List Value → Nat → List Value → List Value
  | cs, _, [] => cs
  | cs, o, v :: r => setL (cs.set o v) (o + 1) r
theorem setL_len : ∀ (vs cs : List Value) (o : Nat), (setL cs o vs).length = cs.length
  | [], cs, o => rfl
  | v :: r, cs, o => by
    show (setL (cs.set o v) (o + 1) r).length = _
    rw [setL_len r, List.length_set]
theorem setL_out : ∀ (vs cs : List Value) (o j : Nat), (j < o ∨ o + vs.length ≤ j) → (setL cs o vs)[j]? = cs[j]?
  | [], cs, o, j, h => rfl
  | v :: r, cs, o, j, h => by
    show (setL (cs.set o v) (o + 1) r)[j]? = _
    rw [List.length_cons] at h
    rw [setL_out r _ _ _ (by omega), List.getElem?_set_ne (by omega)]
theorem setL_in : ∀ (vs cs : List Value) (o j : Nat), j < vs.length → o + vs.length ≤ cs.length → (setL cs o vs)[o + j]? = vs[j]?
  | [], cs, o, j, h, hl => by simp at h
  | v :: r, cs, o, j, h, hl => by
    show (setL (cs.set o v) (o + 1) r)[o + j]? = _
    rw [List.length_cons] at h hl
    cases j with
    | zero => rw [setL_out r _ _ _ (by omega), Nat.add_zero, List.getElem?_set_self (by omega)]; rfl
    | succ j =>
      rw [show o + (j + 1) = o + 1 + j by omega, setL_in r _ (o + 1) j (by omega) (by rw [List.length_set]; omega)]
      rfl
theorem Blk.setCells {p : Nat} {T : TypeId} : ∀ (vs cs : List Value) (o : Nat) (w : World), Blk w p cs T → Blk (w.setCells p o vs) p (setL cs o vs) T
  | [], cs, o, w, h => h
  | v :: r, cs, o, w, h => Blk.setCells r (cs.set o v) (o + 1) _ (h.setCell o v)
theorem below_setCells {B p : Nat} {w0 : World} (hp : B ≤ p) : ∀ (vs : List Value) (o : Nat) (w : World), Below B w0 w → Below B w0 (w.setCells p o vs)
  | [], o, w, h => h
  | v :: r, o, w, h => below_setCells hp r (o + 1) _ (h.setCell (p := ⟨p, o, none⟩) hp v)

/-- The builtin copy, of places that are none. -/
theorem copy_on (w : World) (q n m b o sLen d : Nat) (cs : List Value) (hB : Blk w q cs 3) (hl : cs.length = n) (hs : (Try.prog.info? 3).map (·.size) = some 1) (hm : m ≤ n) (hd : d = min sLen (n - m))
    (hc : ∀ i, i < sLen → w.cell? ⟨b, o + i, none⟩ = some (.int .i64 (-1))) (ty dCap sCap : Nat) :
    Sem.run Try.prog (Builtin.copy_ #[37, 37] ty #[.slice (some ⟨q, m, none⟩) (n - m) dCap, .slice (some ⟨b, o, none⟩) sLen sCap]) w = Result.ok (.int .i64 (d : Nat)) (w.setCells q m (List.replicate d (.int .i64 (-1)))) := by
  have := run_copy_cells (P := Try.prog) w 37 37 ty 3 q m (n - m) dCap ⟨b, o, none⟩ sLen sCap (List.replicate d (.int .i64 (-1))) Try.underlying37 hs (by rw [List.length_replicate, hd])
    (fun j x hx => by
      have hj : j < d := by have := (List.getElem?_eq_some_iff.1 hx).1; simpa using this
      rw [List.getElem?_replicate, if_pos hj] at hx
      cases hx
      have := hc j (by omega)
      rwa [show (⟨b, o, none⟩ : Addr).add j = ⟨b, o + j, none⟩ from by simp [Addr.add]])
    (fun j hj => by
      have hj' : j < d := by simpa using hj
      obtain ⟨u, hu⟩ : ∃ u, cs[m + j]? = some u := ⟨_, List.getElem?_eq_getElem (by omega)⟩
      rw [hB.cell _ _ hu]; rfl)
    (fun j hj => hB.frozen _)
    (fun x hx => by rw [List.eq_of_mem_replicate hx]; rfl)
  rw [List.length_replicate] at this
  exact this

def RepP (n : Nat) (w : World) (e : Ending) (w' : World) : Prop := ∃ q cs, e = .returned (.slice (some ⟨q, 0, none⟩) n n) ∧ w.heap.size ≤ q ∧ Blk w' q cs 3 ∧ cs.length = n ∧ (∀ i, i < n → cs[i]? = some (.int .i64 (-1))) ∧ Below w.heap.size w w'
set_option maxRecDepth 100000 in
set_option maxHeartbeats 4000000 in
theorem repeat_any (n g : Nat) (hn : n ≤ 1000000) (w : World) (h : Blk w g [.int .i64 (-1)] 3) :
    Calls Try.prog 36 #[.slice (some ⟨g, 0, none⟩) 1 1, .int .i64 n] w (RepP n w) := by
  obtain ⟨i0, hi, hz⟩ := Option.map_eq_some_iff.1 TryinfoIntR
  simp only [Prod.mk.injEq] at hz
  have hi1 : (Try.prog.info? 3).map (·.size) = some 1 := by rw [hi]; exact congrArg some hz.2.1
  have fM := fun w => Try.bits_Mul 1 n (by omega) (by omega) w
  rw [show 1 * n / 18446744073709551616 = 0 from by omega, show 1 * n % 18446744073709551616 = n from by omega] at fM
  have hmk := make_any 37 3 _ 1 8 Try.underlying37 TryinfoIntR n (by omega) (by omega)
  obtain ⟨cs0, hl0, hB0⟩ := made_blk w #[Value.int .i64 0] n 3
  have hb0 := (Below.refl w.heap.size w).alloc (Nat.le_refl _) (.cells (madeCells #[Value.int .i64 0] n) 3)
  have hc0 := copy_on (w.alloc (.cells (madeCells #[Value.int .i64 0] n) 3)) w.heap.size n 0 g 0 1 (min 1 (n - 0)) cs0 hB0 hl0 hi1 (Nat.zero_le _) rfl (fun i hi => by
    obtain rfl : i = 0 := by omega
    exact (h.alloc_old _).cell 0 _ rfl)
  rw [Nat.sub_zero] at hc0
  have hB1 := Blk.setCells (List.replicate (min 1 n) (.int .i64 (-1))) _ 0 _ hB0
  have hb1 := below_setCells (Nat.le_refl w.heap.size) (List.replicate (min 1 n) (.int .i64 (-1))) 0 _ hb0
  have hq1 : Hid (∀ i, i < min 1 n → (setL cs0 0 (List.replicate (min 1 n) (.int .i64 (-1))))[i]? = some (.int .i64 (-1))) := Lib.hid (fun i hi => by
    have := setL_in (List.replicate (min 1 n) (.int .i64 (-1))) cs0 0 i (by rw [List.length_replicate]; exact hi) (by rw [List.length_replicate]; omega)
    rw [Nat.zero_add] at this
    rw [this, List.getElem?_replicate, if_pos hi])
  have hL1 : Hid ((setL cs0 0 (List.replicate (min 1 n) (.int .i64 (-1)))).length = n) := Lib.hid (by rw [setL_len]; exact hl0)
  have HB1 := Lib.hid hB1
  have Hb1 := Lib.hid hb1
  have hd1 : min 1 n ≤ n := by omega
  have HD1 : Hid (n = 0 ∨ 1 ≤ min 1 n) := Lib.hid (by omega)
  have HI := Lib.hid hi1
  generalize setL cs0 0 (List.replicate (min 1 n) (.int .i64 (-1))) = cs1 at *
  have hnI : (0 : Int) ≤ (n : Int) := by omega
  clear h hB1 hb1 hB0 hl0 hb0 hi hz hi1
  generalize hW1 : (w.alloc (.cells (madeCells #[Value.int .i64 0] n) 3)).setCells w.heap.size 0 (List.replicate (min 1 n) (.int .i64 (-1))) = W1 at *
  generalize min 1 n = d1 at *
  clear hW1
  go_enter Try.func36, Try.ntmps36
  go_wp2_with (go_at_call 66; (refine (fM _).mono ?_); rintro e wq ⟨rfl, hwq⟩; replace hwq := hwq.symm; subst hwq)
  clear hc0 hmk fM
  go_loopw [8] (fun i wr => ∃ (m : Nat) (cs : List Value), m ≤ n ∧ i = .int .i64 m ∧ Hid (n = 0 ∨ 1 ≤ m) ∧ Hid (Blk wr w.heap.size cs 3) ∧ Hid (cs.length = n) ∧ Hid (∀ i, i < m → cs[i]? = some (.int .i64 (-1))) ∧ Hid (Below w.heap.size w wr)) (fun i _ => n - (intOf i).toNat)
  case atStart => exact ⟨d1, cs1, hd1, rfl, HD1, HB1, hL1, hq1, Hb1⟩
  case round =>
    obtain ⟨m, cs, hm, rfl, HM, HB, HL, HC, HW⟩ := hrel
    by_cases hlt : m < n
    · have hmI : (0 : Int) ≤ (m : Int) := by omega
      have hmI2 : (m : Int) < (n : Int) := by omega
      obtain ⟨d, hd⟩ : ∃ d, d = min m (n - m) := ⟨_, rfl⟩
      have hc := copy_on wr.drew w.heap.size n m w.heap.size 0 m d cs (HB.out.drewN 1) HL.out HI.out hm hd (fun i hi => by
        rw [Nat.zero_add]; exact (HB.out.drewN 1).cell i _ (HC.out i hi))
      have hdn : d ≤ n := by omega
      have hB2 := Blk.setCells (List.replicate d (.int .i64 (-1))) _ m _ (HB.out.drewN 1)
      have hb2 := below_setCells (Nat.le_refl w.heap.size) (List.replicate d (.int .i64 (-1))) m _ HW.out.drew
      have HB2 := Lib.hid hB2
      have Hb2 := Lib.hid hb2
      have HD : Hid (m + d ≤ n ∧ 1 ≤ d) := Lib.hid (by have := HM.out; omega)
      have HC2 : Hid (∀ i, i < m + d → (setL cs m (List.replicate d (.int .i64 (-1))))[i]? = some (.int .i64 (-1))) := Lib.hid (fun i hi => by
        by_cases h : i < m
        · rw [setL_out _ _ _ _ (by omega)]; exact HC.out i h
        · have := setL_in (List.replicate d (.int .i64 (-1))) cs m (i - m) (by rw [List.length_replicate]; omega) (by rw [List.length_replicate, HL.out]; have := HD.out.1; omega)
          rw [show m + (i - m) = i by omega] at this
          rw [this, List.getElem?_replicate, if_pos (by omega)])
      clear hB2 hb2 hd
      go_wp2
      go_region
      go_wp2
      go_roundw
      case rel => 
        have := HD.out
        exact ⟨m + d, _, by omega, by go_num, Lib.hid (by omega), HB2, Lib.hid (by rw [setL_len]; exact HL.out), HC2, Hb2⟩
      case measure => have := HD.out; simp [intOf]; omega
    · have hmI : ¬ (m : Int) < (n : Int) := by omega
      obtain rfl : m = n := by omega
      go_wp2
      go_ret
      exact ⟨w.heap.size, cs, rfl, Nat.le_refl _, HB.out, HL.out, HC.out, HW.out⟩
end Go.Proofs.Ytfgnepbpfglepaa
