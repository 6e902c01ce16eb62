/- What decode's inner functions that read one character do: walks. -/
import Derived.Test.YtfgnepbpfglepaaKit
namespace Go.Proofs.Ytfgnepbpfglepaa
open Go.RowKit

/-- The cells of a reading. -/
def rdCells (b off len cap : Nat) (c : Int) (size : Nat) (lo hi : Int) : List Value :=
  [.slice (some ⟨b, off, none⟩) len cap, .int .i32 c, .int .i64 size, .int .u8 lo, .int .u8 hi]

/-- The char behind one byte more. -/
def charNext (c z : Int) : Int := bits .or .i32 (wrap32 (c * 64)) (wrap32 (bits .and .u8 z 63))

theorem more_world (p b off len cap T : Nat) (c lo hi z : Int) (size : Nat) (w : World) (n : Nat) (hB : Blk w p (rdCells b off len cap c size lo hi) T) :
    Blk (((((w.drewN n).setCell ⟨p, 1, none⟩ (.int .i32 (charNext c z))).setCell ⟨p, 2, none⟩ (.int .i64 (↑size + 1))).setCell ⟨p, 3, none⟩ (.int .u8 128)).setCell ⟨p, 4, none⟩ (.int .u8 191))
      p (rdCells b off len cap (charNext c z) (size + 1) 128 191) T ∧
    w.grownBy (((((w.drewN n).setCell ⟨p, 1, none⟩ (.int .i32 (charNext c z))).setCell ⟨p, 2, none⟩ (.int .i64 (↑size + 1))).setCell ⟨p, 3, none⟩ (.int .u8 128)).setCell ⟨p, 4, none⟩ (.int .u8 191)) (some p) := by
  generalize charNext c z = d
  have h := ((((hB.drewN n).setCell 1 (.int .i32 d)).setCell 2 (.int .i64 (↑size + 1))).setCell 3 (.int .u8 128)).setCell 4 (.int .u8 191)
  refine ⟨?_, grown_trans (grown_trans (grown_trans (grown_trans (grown_drewN (World.grownBy.refl _ _) _) (grown_setCell _ _ _ _)) (grown_setCell _ _ _ _)) (grown_setCell _ _ _ _)) (grown_setCell _ _ _ _)⟩
  simpa [rdCells] using h

set_option maxRecDepth 100000 in
set_option maxHeartbeats 400000 in
theorem more_no (p b off len cap T : Nat) (c lo hi : Int) (size : Nat) (w : World)
    (hB : Blk w p (rdCells b off len cap c size lo hi) T) (_hl : len ≤ cap) (_hcap : cap ≤ maxLen)
    (zs : List Int) (hz : zs.length = len) (hat : At w .u8 b off zs) (hs : size ≤ len)
    (hno : ¬ (size < len ∧ lo ≤ zs[size]?.getD 0 ∧ zs[size]?.getD 0 ≤ hi)) :
    Calls Try.prog 106 #[.pointer (some ⟨p, 0, none⟩)] w fun e w' => e = .returned (.bool false) ∧ Blk w' p (rdCells b off len cap c size lo hi) T ∧ w.grownBy w' (some p) := by
  have h0 := hB.cell 0 _ rfl
  have h2 := hB.cell 2 _ rfl
  have h3 := hB.cell 3 _ rfl
  have h4 := hB.cell 4 _ rfl
  have HB := Lib.hid hB; clear hB
  by_cases he : size = len
  · subst he
    have HZ := Lib.hid hz; clear hz
    go_enter Try.func106, Try.ntmps106
    go_wp2
    go_quiet (fail)
    go_wp2
    go_ret
    exact ⟨rfl, HB.out.drewN _, grown_drewN (World.grownBy.refl _ _) _⟩
  · have hc := hat.2 size (by omega)
    have hlt : (size : Int) < (len : Int) := by omega
    have hne : ((size : Int) == (len : Int)) = false := by simp; omega
    have hno' : ¬ (lo ≤ zs[size]?.getD 0 ∧ zs[size]?.getD 0 ≤ hi) := fun h => hno ⟨by omega, h⟩
    generalize zs[size]?.getD 0 = z at *
    clear hat hno he
    have HZ := Lib.hid hz; clear hz
    go_enter Try.func106, Try.ntmps106
    go_wp2
    go_quiet (fail)
    go_wp2
    go_quiet (fail)
    go_wp2
    all_goals
      go_ret
      exact ⟨rfl, HB.out.drewN _, grown_drewN (World.grownBy.refl _ _) _⟩

set_option maxRecDepth 100000 in
set_option maxHeartbeats 400000 in
theorem more_yes (p b off len cap T : Nat) (c lo hi : Int) (size : Nat) (w : World)
    (hB : Blk w p (rdCells b off len cap c size lo hi) T) (_hl : len ≤ cap) (hcap : cap ≤ maxLen)
    (zs : List Int) (hz : zs.length = len) (hat : At w .u8 b off zs) (hs : size < len)
    (hyes : lo ≤ zs[size]?.getD 0 ∧ zs[size]?.getD 0 ≤ hi) :
    Calls Try.prog 106 #[.pointer (some ⟨p, 0, none⟩)] w fun e w' => e = .returned (.bool true) ∧
      Blk w' p (rdCells b off len cap (charNext c (zs[size]?.getD 0)) (size + 1) 128 191) T ∧ w.grownBy w' (some p) := by
  unfold maxLen at hcap
  have h0 := hB.cell 0 _ rfl
  have h1 := hB.cell 1 _ rfl
  have h2 := hB.cell 2 _ rfl
  have h3 := hB.cell 3 _ rfl
  have h4 := hB.cell 4 _ rfl
  have f1 := hB.frozen 1
  have f2 := hB.frozen 2
  have f3 := hB.frozen 3
  have f4 := hB.frozen 4
  have hc := hat.2 size (by omega)
  have hlt : (size : Int) < (len : Int) := by omega
  have hne : ((size : Int) == (len : Int)) = false := by simp; omega
  generalize zs[size]?.getD 0 = z at *
  obtain ⟨hy1, hy2⟩ := hyes
  have HB := Lib.hid hB; clear hB
  clear hat
  have HZ := Lib.hid hz; clear hz
  go_enter Try.func106, Try.ntmps106
  go_wp2
  go_quiet (fail)
  go_wp2
  go_quiet (fail)
  go_wp2
  go_ret
  exact ⟨rfl, more_world p b off len cap T c lo hi z size w _ HB.out⟩
end Go.Proofs.Ytfgnepbpfglepaa
