/- Texts of mine in one: Gn0. -/
import Derived.Deep.RegionLaw
import Derived.Test.YtcfhggdiccilaaaGreatQ45
import Derived.Test.YtcfhggdiccilaaaGreatQ39
import Derived.Test.YtcfhggdiccilaaaGreatQ43
namespace Go.Proofs.YtcfhggdiccilaaaGreat
section
open Go.RowKit
set_option linter.unusedVariables false
set_option linter.unusedSimpArgs false
def SomeB (w : World) (e : Ending) (w' : World) : Prop := ∃ b : Bool, e = .returned (.bool b) ∧ Below w.heap.size w w'
theorem TryzinfoStr : (Tryz.prog.info? 9).map (fun i => (i.zero, i.size, i.bytes)) = some (some (.string ⟨#[]⟩), 1, 16) := by kernel_rfl
set_option maxRecDepth 100000 in
set_option maxHeartbeats 4000000 in
theorem gnames_any {nm : Nm} {N : NmV} {w : World} (hN : NmAt (· < w.heap.size) w N nm) (hdf : nm.df.size ≤ 140737488351232) :
    Calls Tryz.prog 16 #[nmV nm N] w (SomeB w) := by
  have hb0 := (Below.refl w.heap.size w).alloc (Nat.le_refl _) (.cells #[.bool nm.hd, .string nm.df, .slice N.pa N.pn N.pc, .slice N.sa N.sn N.sc] 25)
  have HB0 := Lib.hid hb0
  have D0 := Blk.alloc (w := w) (T := 25) [.bool nm.hd, .string nm.df, .slice N.pa N.pn N.pc, .slice N.sa N.sn N.sc]
  have d1 := D0.cell 1 _ rfl
  have d2 := D0.cell 2 _ rfl
  have d3 := D0.cell 3 _ rfl
  have HN := Lib.hid hN
  have hpn : N.pn ≤ 140737488351232 := hN.pres.2.2.1.2
  have hsn : N.sn ≤ 140737488351232 := hN.spcs.2.2.1.2
  unfold nmV
  by_cases h1 : 30 < N.pn
  · have q1 : decide ((30 : Int) < (N.pn : Int)) = true := decide_eq_true (by omega)
    clear D0 hN hb0
    go_enter Tryz.func16, Tryz.ntmps16
    go_wp2
    go_ret
    exact ⟨true, rfl, HB0.out⟩
  have q1 : decide ((30 : Int) < (N.pn : Int)) = false := decide_eq_false (by omega)
  by_cases h2 : 30 < N.sn
  · have q2 : decide ((30 : Int) < (N.sn : Int)) = true := decide_eq_true (by omega)
    clear D0 hN hb0
    go_enter Tryz.func16, Tryz.ntmps16
    go_wp2
    go_ret
    exact ⟨true, rfl, HB0.out⟩
  have q2 : decide ((30 : Int) < (N.sn : Int)) = false := decide_eq_false (by omega)
  by_cases h3 : 100 < nm.df.size
  · have q3 : decide ((100 : Int) < (nm.df.size : Int)) = true := decide_eq_true (by omega)
    clear D0 hN hb0
    go_enter Tryz.func16, Tryz.ntmps16
    go_wp2
    go_ret
    exact ⟨true, rfl, HB0.out⟩
  have q3 : decide ((100 : Int) < (nm.df.size : Int)) = false := decide_eq_false (by omega)
  clear hN hb0
  go_enter Tryz.func16, Tryz.ntmps16
  go_wp2_with fail
  obtain ⟨iS, hiS, hzS⟩ := Option.map_eq_some_iff.1 TryzinfoStr
  simp only [Prod.mk.injEq] at hzS
  have HIS := Lib.hid (And.intro hiS hzS)
  clear hiS hzS
  have HD0 := Lib.hid D0
  generalize hw1 : w.alloc (.cells #[.bool nm.hd, .string nm.df, .slice N.pa N.pn N.pc, .slice N.sa N.sn N.sc] 25) = w1 at *
  have hbE := ((Below.refl w1.heap.size w1).alloc (Nat.le_refl _) (.cells #[] 9)).drew
  have HBE := Lib.hid hbE
  have hlt : w.heap.size < w1.heap.size := HD0.out.lt
  have HLT := Lib.hid hlt
  have e2 := (HD0.out.alloc_old (.cells #[] 9)).cell 2 _ rfl
  have e3 := (HD0.out.alloc_old (.cells #[] 9)).cell 3 _ rfl
  have d2' : w1.drew.cell? ⟨w.heap.size, 2, none⟩ = _ := d2
  have d3' : w1.drew.cell? ⟨w.heap.size, 3, none⟩ = _ := d3
  have HV0 := Lib.hid (show (w1.alloc (.cells #[] 9)).drew.ownsRow w1.heap.size 9 1 (.slice (some ⟨w1.heap.size, 0, none⟩) 0 0) 0 [] from owns_emptyE 1 (show Blk (w1.alloc (.cells #[] 9)).drew w1.heap.size [] 9 from Blk.alloc (w := w1) [] _) (Nat.le_refl _))
  have HP := Lib.hid (txts_srcIs (RsOf.imp HN.out.pres (ok' := fun _ => True) (fun _ _ => trivial) (fun b o x hb hx => hx.move (w' := (w1.alloc (.cells #[] 9)).drew) (((HB0.out.alloc HB0.out.size (.cells #[] 9)).drew).block b hb))))
  have HS := Lib.hid (fun (wx : World) (hb' : Below w.heap.size w wx) => txts_srcIs (RsOf.imp HN.out.spcs (ok' := fun _ => True) (fun _ _ => trivial) (fun b o x hb hx => hx.move (w' := wx) (hb'.block b hb))))
  have HPL := Lib.hid (show N.pn = nm.ps.length from HN.out.pres.1)
  have HSL := Lib.hid (show N.sn = nm.ss.length from HN.out.spcs.1)
  have HB1 := Lib.hid ((HB0.out.alloc HB0.out.size (.cells #[] 9)).drew)
  clear hbE hlt hw1 D0
  go_cut [27, 28, 29] from 21 to 29 (fun s27 s28 s29 wx => ∃ (a7 : Option Addr) (c7 : Nat), s27 = .slice a7 (N.pn + N.sn) c7 ∧ s28 = .int .i64 ((N.pn + N.sn : Nat) : Int) ∧ s29 = .int .i64 0 ∧ Hid (∀ (j : Nat) (u : Value), (nm.ps.map Value.string ++ nm.ss.map Value.string)[j]? = some u → ∃ g, a7 = some ⟨g, 0, none⟩ ∧ w.heap.size ≤ g ∧ g < wx.heap.size ∧ wx.cell? ⟨g, j, none⟩ = some u) ∧ Hid (Below w.heap.size w wx))
  case first =>
    go_region_law (first
      | (refine step_append_src rfl _ _ 23 rfl w1.heap.size 9 iS _ 1 16 Tryz.underlying23 HIS.out.1 HIS.out.2.1 rfl (by decide) HIS.out.2.2.1 HIS.out.2.2.2 (.slice (some ⟨w1.heap.size, 0, none⟩) 0 0) 0 [] rfl N.pa N.pn N.pc (nm.ps.map Value.string) (by rw [List.length_map]; have := HPL.out; omega) rfl (by intro u hu; obtain ⟨x, _, rfl⟩ := List.mem_map.1 hu; rfl) (by unfold maxLen; omega) (by omega) HV0.out HP.out HBE.out.size ?_; intro v4 w4 ho4 hg4; have HO4 := Lib.hid ho4; have G4S := Lib.hid hg4.size; have B4 := Lib.hid (HB1.out.grown hg4 HB1.out.size (fun g hg => by have h1 : w1.heap.size = g := Option.some.inj hg; have := HLT.out; omega)); have k4 := ((HD0.out.later HBE.out HLT.out).kept hg4 (fun e => by have h1 : w1.heap.size = w.heap.size := Option.some.inj e; have := HLT.out; omega)).cell 3 _ rfl; clear ho4 hg4)
      | (refine step_append_src rfl _ _ 23 rfl w1.heap.size 9 iS _ 1 16 Tryz.underlying23 HIS.out.1 HIS.out.2.1 rfl (by decide) HIS.out.2.2.1 HIS.out.2.2.2 v4 (0 + N.pn) ([] ++ nm.ps.map Value.string) rfl N.sa N.sn N.sc (nm.ss.map Value.string) (by rw [List.length_map]; have := HSL.out; omega) rfl (by intro u hu; obtain ⟨x, _, rfl⟩ := List.mem_map.1 hu; rfl) (by unfold maxLen; omega) (by omega) HO4.out (HS.out _ B4.out) (Nat.le_trans HBE.out.size G4S.out) ?_; intro v7 w7 ho7 hg7; obtain ⟨hl7, a7, c7, hv7, hc7⟩ := owns_get ho7; subst hv7; have HC7 := Lib.hid hc7; have HL7 := Lib.hid hl7; clear hc7 hl7; have B7 := Lib.hid (B4.out.grown hg7 B4.out.size (fun g hg => by have := (owns_own HO4.out hg).1; have := HLT.out; omega)); clear ho7 hg7))
    all_goals
      go_wp2_with fail
      go_meet
      exact ⟨a7, c7, rfl, congrArg (Value.int .i64) (by omega), rfl, Lib.hid (fun j u h => by obtain ⟨g, h1, h2, h3, h4, _⟩ := HC7.out j u (by simpa using h); exact ⟨g, h1, by have := HLT.out; omega, h3, h4⟩), B7⟩
  case rest =>
    obtain ⟨a7, c7, rfl, rfl, rfl, HC, HBB⟩ := hcut
    go_wp2_with fail
    go_loopw [29] (fun iv wr => ∃ i : Nat, i ≤ N.pn + N.sn ∧ iv = .int .i64 i ∧ Hid (Below w.heap.size w wr) ∧ Hid (∀ (j : Nat) (u : Value), (nm.ps.map Value.string ++ nm.ss.map Value.string)[j]? = some u → ∃ g, a7 = some ⟨g, 0, none⟩ ∧ wr.cell? ⟨g, j, none⟩ = some u)) (fun iv _ => (N.pn + N.sn) - (intOf iv).toNat)
    case atStart => exact ⟨0, Nat.zero_le _, rfl, HBB, Lib.hid (fun j u h => by obtain ⟨g, h1, _, _, h2⟩ := HC.out j u h; exact ⟨g, h1, h2⟩)⟩
    case round =>
      obtain ⟨i, hi, rfl, HB2, HC2⟩ := hrel
      by_cases hlt : i < N.pn + N.sn
      · obtain ⟨u, hu⟩ : ∃ u, (nm.ps.map Value.string ++ nm.ss.map Value.string)[i]? = some u := ⟨_, List.getElem?_eq_getElem (by rw [List.length_append, List.length_map, List.length_map]; have := HPL.out; have := HSL.out; omega)⟩
        obtain ⟨x, rfl⟩ : ∃ x, u = .string x := by
          have hm := List.mem_of_getElem? hu
          rcases List.mem_append.1 hm with hm | hm
          · obtain ⟨x, _, rfl⟩ := List.mem_map.1 hm; exact ⟨x, rfl⟩
          · obtain ⟨x, _, rfl⟩ := List.mem_map.1 hm; exact ⟨x, rfl⟩
        obtain ⟨g, rfl, u0⟩ := HC2.out i _ hu
        have hiI : (0 : Int) ≤ (i : Int) := by omega
        have hiI2 : (i : Int) < ((N.pn + N.sn : Nat) : Int) := by omega
        clear hu
        by_cases hs : (100 : Int) < (x.size : Int)
        · have qs : decide ((100 : Int) < (x.size : Int)) = true := decide_eq_true hs
          go_wp2
          go_ret
          exact ⟨true, rfl, HB2.out⟩
        · have qs : decide ((100 : Int) < (x.size : Int)) = false := decide_eq_false hs
          go_wp2
          go_roundw
          case rel => exact ⟨i + 1, by omega, by go_num, HB2, HC2⟩
          case measure => simp [intOf]; omega
      · obtain rfl : i = N.pn + N.sn := by omega
        have hiI2 : ¬ ((N.pn + N.sn : Nat) : Int) < ((N.pn + N.sn : Nat) : Int) := by omega
        go_wp2
        go_ret
        exact ⟨false, rfl, HB2.out⟩
end
end Go.Proofs.YtcfhggdiccilaaaGreat
