/- The An+B of "2n + 1", read from its tokens: walks. -/
import Derived.Test.YticlkjkombgchaaGreatDoorAnb1
import Derived.Test.YticlkjkombgchaaGreatDoorWhole4
namespace Go.Proofs.YticlkjkombgchaaGreatDoor
open Go.RowKit

/-- The tokens of "2n + 1". -/
def T0 : List Tk := [⟨12, 0, 2, [110], [50], true⟩, ⟨13, 2, 3, [], [], false⟩, ⟨9, 3, 4, [43], [], false⟩, ⟨13, 4, 5, [], [], false⟩, ⟨10, 5, 6, [], [49], true⟩, ⟨0, 6, 6, [], [], false⟩]
theorem T0_toks : toksF [50, 110, 32, 43, 32, 49] = T0 := by decide +kernel
theorem n2 : strOfNums [50] = ⟨#[50]⟩ := by decide +kernel
theorem n1 : strOfNums [49] = ⟨#[49]⟩ := by decide +kernel
theorem nn : strOfNums [110] = ⟨#[110]⟩ := by decide +kernel
theorem np : strOfNums [43] = ⟨#[43]⟩ := by decide +kernel
theorem n0 : strOfNums [] = ⟨#[]⟩ := by decide +kernel

theorem T0_cells {w : World} {a : Option Addr} {cap : Nat} (h : ReadsT w a cap T0) : ∃ b, a = some ⟨b, 0, none⟩ ∧ b < w.heap.size ∧ 6 ≤ cap ∧ cap ≤ 9223372036854775807 ∧
    ∀ (j : Nat) (v : Value), (T0.flatMap tkCells)[j]? = some v → w.cell? ⟨b, j, none⟩ = some v := by
  obtain ⟨h1, h2, b, rfl, hb, hc⟩ := h
  exact ⟨b, rfl, hb, h1, h2, hc⟩

/-- What the conversion of a string to bytes lays: it may be written. -/
theorem conv_strW (s : ByteArray) (w : World) : ∃ cap w', (convert 9 22 (.string s)).run Tryz.prog w = .ok (.slice (some ⟨w.heap.size, 0, none⟩) s.size cap) w' ∧ s.size ≤ cap ∧ Below w.heap.size w w' ∧ w'.heap.size = w.heap.size + 1 ∧
    (∀ (j : Nat) (b : UInt8), (strB s)[j]? = some b → w'.cell? ⟨w.heap.size, j, none⟩ = some (.int .u8 b.toNat)) ∧ ∀ j, j < s.size → w'.frozen? ⟨w.heap.size, j, none⟩ = false := by
  have hh := heap_alloc_new w.drew (.cells (bytesRow s (grownCap w s.size 0 5)) 5 ((bytesRow s (grownCap w s.size 0 5)).size, (bytesRow s (grownCap w s.size 0 5)).size + 1))
  refine ⟨_, _, run_bytes_of_string w 9 22 5 s Tryz.underlying9 Tryz.underlying22 Tryz.underlying5, grownCap_ge _ _ _ _, ((Below.refl _ w).drew).alloc (Nat.le_refl _) _, by simp, fun j b hb => ?_, fun j hj => ?_⟩
  · have hj : j < (strB s).length := (List.getElem?_eq_some_iff.1 hb).1
    have hjs : j < s.data.size := by unfold strB at hj; simpa using hj
    have hv : (bytesRow s (grownCap w s.size 0 5))[j]? = some (Value.int .u8 b.toNat) := by
      unfold bytesRow
      rw [Array.getElem?_append_left (by simpa using hjs), Array.getElem?_map]
      have : s.data[j]? = some b := by rw [← hb]; unfold strB; simp
      rw [this]; rfl
    show World.cell? _ ⟨w.drew.heap.size, j, none⟩ = _
    simp only [World.cell?, hh]
    simpa using hv
  · have hsz : s.size ≤ (bytesRow s (grownCap w s.size 0 5)).size := by
      unfold bytesRow
      rw [Array.size_append, Array.size_map]
      exact Nat.le_add_right _ _
    show World.frozen? _ ⟨w.drew.heap.size, j, none⟩ = _
    simp only [World.frozen?, hh]
    simp
    omega

set_option maxRecDepth 100000 in
set_option maxHeartbeats 1000000 in
theorem lower_n (w : World) : Calls Tryz.prog 106 #[.string ⟨#[110]⟩] w (Told (.string ⟨#[110]⟩) w) := by
  obtain ⟨cap, w2, hrun, hcap, hb2, hz2, hcells, hfz⟩ := conv_strW ⟨#[110]⟩ w
  have c0 : w2.cell? ⟨w.heap.size, 0, none⟩ = some (.int .u8 110) := hcells 0 110 rfl
  have f0 := hfz 0 (by decide)
  have hsz : ByteArray.size ⟨#[110]⟩ = 1 := rfl
  rw [hsz] at hrun hcap
  have hcap' : (1 : Int) ≤ (cap : Int) := by omega
  have hsm := fun w => small_any 110 w (by unfold Ch; omega)
  rw [show smallF 110 = 110 from by decide] at hsm
  have c3 : (w2.setCell ⟨w.heap.size, 0, none⟩ (.int .u8 110)).cell? ⟨w.heap.size, 0, none⟩ = some (.int .u8 110) := World.cell?_setCell_same' _ _ _ (by rw [c0]; rfl)
  have hb3 : Below w.heap.size w (w2.setCell ⟨w.heap.size, 0, none⟩ (.int .u8 110)) := hb2.setCell (p := ⟨w.heap.size, 0, none⟩) (Nat.le_refl _) _
  have cv := run_convert_bytes_arg (w2.setCell ⟨w.heap.size, 0, none⟩ (.int .u8 110)) 22 5 Tryz.underlying22 Tryz.underlying5 w.heap.size 0 1 cap [110] rfl (fun i hi => by
    obtain rfl : i = 0 := by simpa using hi
    exact c3) 9 Tryz.underlying9
  rw [show strOfNums [110] = ⟨#[110]⟩ from by decide +kernel] at cv
  clear hcells hfz
  go_enter Tryz.func106, Tryz.ntmps106
  go_wp2_with fail
  refine wp_loop_rounds 2 ?_
  rw [rounds_succ]
  go_wp2_with fail
  refine (hsm _).mono ?_
  rintro e w3 ⟨rfl, rfl⟩
  go_wp2
  rw [rounds_succ]
  go_wp2
  go_ret
  exact ⟨rfl, hb3⟩

set_option maxRecDepth 100000 in
set_option maxHeartbeats 1000000 in
theorem cutPrefix_n (w : World) : Calls Tryz.prog 109 #[.string ⟨#[110]⟩, .string ⟨#[110]⟩] w (Tells (.tuple #[.string ⟨#[]⟩, .bool true]) w) := by
  have h := fun w => hasPrefixIn_one ⟨#[110]⟩ 110 w
  rw [show firstB ⟨#[110]⟩ 110 = true from by decide +kernel] at h
  have hx : ({ data := #[110] } : ByteArray).extract 1 1 = ⟨#[]⟩ := by decide +kernel
  have hi : Calls Tryz.prog 141 #[.string ⟨#[110]⟩, .string ⟨#[110]⟩] w (Tells (.tuple #[.string ⟨#[]⟩, .bool true]) w) := by
    go_enter Tryz.func141, Tryz.ntmps141
    go_wp2_with fail
    refine (h _).mono ?_
    rintro e wq ⟨rfl, hwq⟩; replace hwq := hwq.symm; subst hwq
    go_wp2
    go_ret2
    exact ⟨by first | rfl | (simp [hx]), rfl⟩
  go_enter Tryz.func109, Tryz.ntmps109
  go_wp2_with fail
  refine hi.mono ?_
  rintro e wq ⟨rfl, hwq⟩; replace hwq := hwq.symm; subst hwq
  go_wp2
  go_ret2
  exact ⟨rfl, rfl⟩
end Go.Proofs.YticlkjkombgchaaGreatDoor
